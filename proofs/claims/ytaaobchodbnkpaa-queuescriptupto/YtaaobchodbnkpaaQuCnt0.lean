import Derived.Test.YtaaobchodbnkpaaQuFace3
import Derived.Test.YtaaobchodbnkpaaQuPure
import Derived.Test.YtaaobchodbnkpaaCompare
import Derived.Test.YtaaobchodbnkpaaLSort
import Derived.Test.YtaaobchodbnkpaaQuSo
import Derived.Shelf.SlSortCmp.NoneTotal
namespace Go.Proofs.Ytaaobchodbnkpaa.Qe
open Go.RowKit Go.Sort Go.Shelf Go.Lib
attribute [local go_sem ↓] Go.wp_at_zero Go.wp_at_succ

/-- The time of a message. -/
abbrev tmo (m : Ms) : Tq := (m.a, m.b, m.c)
def mcm (x y : Ms) : Int := tcmp x.a x.b x.c y.a y.b y.c
theorem c64_neg (x y : Int) : c64 x y < 0 ↔ x < y := by unfold c64; (repeat split) <;> omega
theorem c64_zero (x y : Int) : c64 x y = 0 ↔ x = y := by unfold c64; (repeat split) <;> omega
theorem tcmp_neg (a b c x y z : Int) : tcmp a b c x y z < 0 ↔ a < x ∨ (a = x ∧ (b < y ∨ (b = y ∧ c < z))) := by
  have h1 := c64_neg a x; have h2 := c64_zero a x; have h3 := c64_neg b y; have h4 := c64_zero b y; have h5 := c64_neg c z
  unfold tcmp or3
  generalize c64 a x = p at *; generalize c64 b y = q at *; generalize c64 c z = r at *
  (repeat split) <;> omega
theorem ltOf_mcm (x y : Ms) : ltOf mcm x y = tl (tmo x) (tmo y) := by
  rw [Bool.eq_iff_iff, tl_iff]
  unfold ltOf mcm
  rw [decide_eq_true_iff]
  exact tcmp_neg _ _ _ _ _ _
theorem swoM : SWO (ltOf mcm) where
  irrefl x := by rw [ltOf_mcm]; exact tl_irr _
  trans x y z h1 h2 := by rw [ltOf_mcm] at *; exact tl_tr h1 h2
  ntrans x y z h1 h2 := by rw [ltOf_mcm] at *; exact tl_nt h1 h2
set_option maxHeartbeats 1000000 in
theorem cmp_any (x y : Ms) (w : World) : Calls Try.prog 39 #[mv x, mv y] w fun e w' => e = .returned (.int .i64 (mcm x y)) ∧ Gr w w' := by
  have h := fun W => Compare_any x.a x.b x.c y.a y.b y.c W
  rw [show tcmp x.a x.b x.c y.a y.b y.c = mcm x y from rfl] at h
  generalize mcm x y = r at h ⊢
  go_enter Try.func39, Try.ntmps39
  go_wp2_with fail
  refine (h _).mono ?_
  rintro e w' ⟨rfl, hg⟩
  go_wp2
  go_ret
  exact ⟨rfl, (((Gr.refl _).alloc _).alloc _).trans hg⟩
theorem cmpLaysM (blk off size : Nat) (w : World) : CmpLays Try.prog 39 #[] EM.enc 6 mcm blk off size w :=
  fun _ _ _ _ x y => cmp_any x y _
/-- The list in some order in which no time is told ahead of an earlier one. -/
def Srt (l d : List Ms) : Prop := d.Perm l ∧ (d.map tmo).Pairwise fun a b => tl b a = false
theorem Srt.len {l d : List Ms} (h : Srt l d) : d.length = l.length := h.1.length_eq
theorem Srt.grp {l d : List Ms} (h : Srt l d) : grp (d.map tmo) = gct (l.map tmo) := grp_sorted (h.1.map _) h.2
theorem sort_any (g cap base : Nat) (ts : List Ms) (w : World) (h : w.ownsRow base 36 6 (.slice (some ⟨g, 0, none⟩) ts.length cap) ts.length (fl EM ts)) (hsz : ts.length < 4611686018427387904) :
    Calls Try.prog 38 #[.slice (some ⟨g, 0, none⟩) ts.length cap, .func (.func 39) #[] #[]] w fun e w' => e = .returned (.tuple #[]) ∧ Hid (∃ d, Srt ts d ∧ w'.ownsRow base 36 6 (.slice (some ⟨g, 0, none⟩) ts.length cap) ts.length (fl EM d) ∧ Kp (fun k => k = g) w w') := by
  have eg : ∀ args w, (callFunc 39 args).run Try.prog w = .ok (.enter 39 args) w := enters_of Try.func39 (by kernel_rfl) rfl
  have hg : g < w.heap.size := (h.lt g rfl).2
  have hcon := AnyQ.slices_SortFunc Try.lSortQ 6 Try.isAgg36 Try.sizeOf36 EM.enc (fun _ => rfl) EM.one mcm swoM 39 #[] g 0 cap ts.toArray w eg (cmpLaysM g 0 _ w) (holdsK_of_owns (E := EM) (by decide) h) hg (by simpa using hsz)
  change Calls Try.prog 38 _ _ _ at hcon
  rw [List.size_toArray] at hcon
  refine hcon.mono ?_
  rintro e w' ⟨rfl, d', n, os, hp, hs, rfl⟩
  have hsz' : d'.size = ts.length := by simpa using hp.1
  have hd : d'.toList.toArray = d' := by simp
  refine ⟨rfl, d'.toList, ⟨?_, ?_⟩, ?_, ?_⟩
  · have h1 := hp.2.2
    rw [show d'.extract 0 ts.length = d' by rw [← hsz']; simp] at h1
    simpa using h1
  · rw [List.pairwise_map, List.pairwise_iff_getElem]
    intro i j hi hj hij
    have h1 := hs i j (Nat.zero_le _) hij (by simpa [hsz'] using hj)
    rw [ltOf_mcm] at h1
    simp only [Array.length_toList] at hi hj
    rw [getElem!_pos d' i hi, getElem!_pos d' j hj] at h1
    simpa using h1
  · have := owns_sorted (E := EM) (by decide) (n := n) (os := os) (us := d'.toList) h (by simpa using hsz')
    rw [hd] at this
    exact this
  · have := kp_sorted (E := EM) (w := w) (g := g) (n := n) (os := os) (us := d'.toList)
    rw [hd] at this
    exact this
/-- A change. -/
structure Cg where
  at_ : Int
  a : Int
  b : Int
  c : Int
  n : Int
  deriving DecidableEq, Inhabited
abbrev cv (x : Cg) : Value := .agg #[.int .i64 x.at_, .int .u64 x.a, .int .u64 x.b, .int .u64 x.c, .int .i64 x.n]
def EC : El Cg where
  k := 5
  enc x := [.int .i64 x.at_, .int .u64 x.a, .int .u64 x.b, .int .u64 x.c, .int .i64 x.n]
  len _ := rfl
  one x u hu := by
    simp at hu
    rcases hu with rfl | rfl | rfl | rfl | rfl <;> rfl
theorem infoC : (Try.prog.info? 51).map (fun i => (i.zero, i.size, i.bytes)) = some (some (.agg #[.int .i64 0, .int .u64 0, .int .u64 0, .int .u64 0, .int .i64 0]), 5, 40) := by kernel_rfl
/-- A count at a place as a change. -/
def mkC (p : Int) (x : Tq × Nat) : Cg := ⟨p, x.1.1, x.1.2.1, x.1.2.2, (x.2 : Nat)⟩
/-- The changes of a place. -/
def cat (p : Int) (l : List Ms) : List Cg := (gct (l.map tmo)).map (mkC p)
theorem cat_len (p : Int) (l : List Ms) : (cat p l).length ≤ l.length := by
  unfold cat
  rw [List.length_map]
  exact Nat.le_trans (gct_len _) (by simp)
end Go.Proofs.Ytaaobchodbnkpaa.Qe
