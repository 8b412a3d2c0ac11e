import Derived.Test.YtghofmhlmkpkcaaDoorBRGet
import Derived.Test.YtghofmhlmkpkcaaDoorBFlt
import Derived.Test.YtghofmhlmkpkcaaDoorBSame
namespace Go.Proofs.YtghofmhlmkpkcaaDoor.Wi
open Go.RowKit Go.Sort
attribute [local go_sem ↓] Go.wp_at_zero Go.wp_at_succ

/-- What Get answered, as it lies. -/
def Ans (w : World) (base : Nat) (x : Except Er (List Cx)) (vl ve : Value) : Prop :=
  match x with
  | .ok l => w.ownsRow base 43 5 vl l.length (fl EC l) ∧ ve = .nilIface
  | .error (p, e) => vl = .slice none 0 0 ∧ ∃ fb, ve = .iface 51 (.pointer (some ⟨fb, 0, none⟩)) ∧ base ≤ fb ∧ w.heap[fb]? = some (.cells #[.int .i64 (p : Nat), .int .i64 (e : Nat)] 60 (0, 0))
theorem Gtd.ans {w w' : World} {x : Except Er (List Cx)} {r : Ending} (h : Gtd w x r w') : ∃ vl ve, r = .returned (.tuple #[vl, ve]) ∧ Ans w' w.heap.size x vl ve ∧ Below w.heap.size w w' := by
  obtain ⟨hb, h⟩ := h
  match x, h with
  | .ok l, ⟨d, h1, h2⟩ => exact ⟨d, _, h1, ⟨h2, rfl⟩, hb⟩
  | .error (p, e), ⟨fb, h1, h2, h3⟩ => exact ⟨_, _, h1, ⟨rfl, fb, rfl, h2, h3⟩, hb⟩
set_option maxHeartbeats 4000000 in
set_option maxRecDepth 100000 in
theorem told_any {vl ve vb : Value} {L : List UInt8} {base : Nat} (w : World) (hg : Ety w) (hA : Ans w base (bget L) vl ve) (hL : Ls EB w vb L) (hl : 8 * L.length + 100 ≤ 140737488355328) :
    Calls Tryd.prog 17 #[vl, ve, vb] w fun r w' => r = .returned (.bool true) ∧ Below w.heap.size w w' := by
  have hget := rget15_any w hL hl
  have HG := hid hg
  cases hx : bget L with
  | ok l =>
    rw [hx] at hA hget
    obtain ⟨h1, rfl⟩ := hA
    have HA := hid (owns_ls (E := EC) h1)
    have hlen : Hid (l.length < 4611686018427387904) := by
      show _ < _
      have := (bget_ok hx).2.2.2
      omega
    clear h1 hg hL hl hx
    go_enter Tryd.func17, Tryd.ntmps17
    go_wp2_with fail
    refine hget.mono ?_
    rintro r w1 ⟨hb, d, rfl, hd⟩
    have HD := hid (owns_ls (E := EC) hd)
    have HB := hid hb
    clear hget hb hd
    go_wp2_with fail
    refine (fault_nil w1).mono ?_
    rintro r w2 ⟨rfl, rfl⟩
    go_wp2_with fail
    refine (same_any w2 (HA.out.below HB.out) HD.out hlen.out).mono ?_
    rintro r w3 ⟨rfl, g3⟩
    rw [decide_eq_true rfl]
    have HB3 := hid (HB.out.trans (g3.below.mono HB.out.size))
    clear g3
    go_wp2_with fail
    go_ret
    exact ⟨rfl, HB3.out⟩
  | error pe =>
    obtain ⟨p, e⟩ := pe
    rw [hx] at hA hget
    obtain ⟨rfl, fb, rfl, hfb, hf⟩ := hA
    have HF := hid hf
    clear hfb hf hg hL hl hx
    go_enter Tryd.func17, Tryd.ntmps17
    go_wp2_with fail
    refine hget.mono ?_
    rintro r w1 ⟨hb, rfl⟩
    have HB := hid hb
    clear hget hb
    go_wp2_with fail
    refine (fault_any w1 (HG.out.below HB.out) ((HB.out.block fb (Array.getElem?_eq_some_iff.1 HF.out).1).trans HF.out)).mono ?_
    rintro r w2 ⟨rfl, hb2⟩
    have HB2 := hid (HB.out.trans (hb2.mono HB.out.size))
    clear hb2
    go_wp2_with fail
    refine (same_any (l := []) (m := []) w2 (Ls.nil _) (Ls.nil _) (by decide)).mono ?_
    rintro r w3 ⟨rfl, g3⟩
    rw [decide_eq_true rfl]
    have HB3 := hid (HB2.out.trans (g3.below.mono HB2.out.size))
    clear g3
    by_cases he : e = 0
    · subst he
      go_wp2_with fail
      go_ret
      exact ⟨rfl, HB3.out⟩
    · have hez : ((e : Int) == 0) = false := by simpa using he
      go_wp2_with fail
      go_ret
      exact ⟨rfl, HB3.out⟩
end Go.Proofs.YtghofmhlmkpkcaaDoor.Wi
