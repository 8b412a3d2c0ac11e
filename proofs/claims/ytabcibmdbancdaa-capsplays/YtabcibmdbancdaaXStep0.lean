import Derived.Test.YtabcibmdbancdaaXAlk
namespace Go.Proofs.Ytabcibmdbancdaa
open Go.RowKit Go.Sort Go.Maps

/-- What a call on both leaves. -/
structure SP (most : Int) (p : Pp) (w w' : World) (p' : Pp) : Prop where
  ok : Ok1 most p' w'
  tb : p'.tb = p.tb
  rb : p'.rb = p.rb
  last : p'.last ≤ p.last + 1
  kp : Kp p.own w w'
  own : ∀ k, p'.own k → p.own k ∨ w.heap.size ≤ k
/-- The program's call, the document's. -/
def PC (most : Int) (tb b : Nat) (last last' : Int) (L L' : List Hd) (f : FuncId) (args : List Value) (r : Value) : Prop :=
  ∀ W, Cs W tb b most last L → Calls Try.prog f (.pointer (some ⟨tb, 0, none⟩) :: args).toArray W fun e W' => e = .returned r ∧ Cs W' tb b most last' L' ∧ Kp (fun k => k = tb ∨ k = b) W W'
def RC (most : Int) (rb : Nat) (v : Value) (last last' : Int) (L L' : List Hd) (f : FuncId) (args : List Value) (r : Value) : Prop :=
  ∀ W, Rc W rb v most last L → Calls Try.prog f (.pointer (some ⟨rb, 0, none⟩) :: args).toArray W fun e W' => e = .returned r ∧ ∃ v', Rc W' rb v' most last' L' ∧ Kp (fun k => k = rb ∨ v.ownBlock = some k) W W' ∧ ∀ g, v'.ownBlock = some g → v.ownBlock = some g ∨ W.heap.size ≤ g
section
variable {most : Int} {tb b rb : Nat} {v : Value} {last : Int} {L : List Hd}
theorem RC.of_gr {f : FuncId} {args : List Value} {r : Value} (h : ∀ W, Rc W rb v most last L → Calls Try.prog f (.pointer (some ⟨rb, 0, none⟩) :: args).toArray W fun e W' => e = .returned r ∧ Gr W W') : RC most rb v last last L L f args r :=
  fun W hW => (h W hW).mono fun _ _ ⟨he, g⟩ => ⟨he, v, hW.gr g, Kp.of_gr g, fun _ hg => Or.inl hg⟩
theorem PC.of_gr {f : FuncId} {args : List Value} {r : Value} (h : ∀ W, Cs W tb b most last L → Calls Try.prog f (.pointer (some ⟨tb, 0, none⟩) :: args).toArray W fun e W' => e = .returned r ∧ Gr W W') : PC most tb b last last L L f args r :=
  fun W hW => (h W hW).mono fun _ _ ⟨he, g⟩ => ⟨he, hW.gr g, Kp.of_gr g⟩
theorem mint_both (s : Sp) (hlo : 0 ≤ last) (hl : last < 3000000000000) (hn : (L.length : Int) ≤ last) : ∃ (i e last' : Int) (L' : List Hd), last' ≤ last + 1 ∧
    PC most tb b last last' L L' 7 [sv s] (.tuple #[.int .i64 i, .int .i64 e]) ∧ RC most rb v last last' L L' 23 [sv s] (.tuple #[.int .i64 i, .int .i64 e]) := by
  by_cases hm : most ≤ (L.length : Int)
  · exact ⟨0, 44, last, L, by omega, PC.of_gr fun W hW => mint_full s W hW hm, RC.of_gr fun W hW => rmint_full s W hW hm⟩
  · exact ⟨last + 1, 0, last + 1, _, Int.le_refl _, fun W hW => mint_ok s W hW (by omega) hl, fun W hW => rmint_ok s W hW (by omega) hlo hl (by omega)⟩
theorem get_both (id : Int) (hw : (Lit.int .i64 id).wf = true) (hu : L.Pairwise fun x y => x.1 < y.1) (hn : L.length ≤ 3000000000000) : ∃ (s : Sp) (e : Int),
    PC most tb b last last L L 10 [.int .i64 id] (.tuple #[sv s, .int .i64 e]) ∧ RC most rb v last last L L 24 [.int .i64 id] (.tuple #[sv s, .int .i64 e]) := by
  cases hq : look L id with
  | none => exact ⟨(0, 0, 0, 0), 47, PC.of_gr fun W hW => get_none id W hW hw hq, RC.of_gr fun W hW => rget_none id W hW hu hn hq⟩
  | some s => exact ⟨s, 0, PC.of_gr fun W hW => get_some id s W hW hw hq, RC.of_gr fun W hW => rget_some id s W hW hu hn hq⟩
theorem lower_both (id x y z : Int) (hw : (Lit.int .i64 id).wf = true) (hu : L.Pairwise fun x y => x.1 < y.1) (hn : L.length ≤ 3000000000000) (hl : last < 3000000000000) : ∃ (e : Int) (L' : List Hd),
    PC most tb b last last L L' 9 [.int .i64 id, tm x y z] (.int .i64 e) ∧ RC most rb v last last L L' 25 [.int .i64 id, tm x y z] (.int .i64 e) := by
  cases hq : look L id with
  | none => exact ⟨47, L, PC.of_gr fun W hW => lower_none id x y z W hW hw hq, RC.of_gr fun W hW => rlower_none id x y z W hW hu hn hq⟩
  | some s =>
    cases ht : tle s.2.1 s.2.2.1 s.2.2.2 x y z with
    | false => exact ⟨48, L, PC.of_gr fun W hW => lower_back id x y z s W hW hw hq ht, RC.of_gr fun W hW => rlower_back id x y z s W hW hu hn hq ht⟩
    | true => exact ⟨0, _, fun W hW => (lower_ok id x y z s W hW hw hq ht hl).mono fun _ _ ⟨he, hc, hk⟩ => ⟨he, hc, hk.mono fun _ h => Or.inr h⟩,
        fun W hW => (rlower_ok id x y z s W hW hu hn hq ht).mono fun _ _ ⟨he, hc, hk⟩ => ⟨he, v, hc, hk.mono fun _ h => Or.inr h, fun _ hg => Or.inl hg⟩⟩
theorem drop_both (id : Int) (hw : (Lit.int .i64 id).wf = true) (hu : L.Pairwise fun x y => x.1 < y.1) (hn : L.length ≤ 3000000000000) : ∃ (e : Int) (L' : List Hd),
    PC most tb b last last L L' 8 [.int .i64 id] (.int .i64 e) ∧ RC most rb v last last L L' 26 [.int .i64 id] (.int .i64 e) := by
  cases hq : look L id with
  | none => exact ⟨47, L, PC.of_gr fun W hW => drop_none id W hW hw hq, RC.of_gr fun W hW => rdrop_none id W hW hu hn hq⟩
  | some s => exact ⟨0, _, fun W hW => (drop_ok id s W hW hw hq).mono fun _ _ ⟨he, hc, hk⟩ => ⟨he, hc, hk.mono fun _ h => Or.inr h⟩,
      fun W hW => (rdrop_ok id s W hW hu hn hq).mono fun _ _ ⟨he, v', hc, hk, hg⟩ => ⟨he, v', hc, hk.mono fun _ h => Or.inl h, fun g h => Or.inr (hg g h)⟩⟩
/-- Behind both calls. -/
theorem SP.mk' {w w1 w2 w3 : World} {last' : Int} {L' : List Hd} {v' : Value} (h : Ok1 most ⟨tb, b, rb, v, last, L⟩ w) (b1 : Below w.heap.size w w1) (hc : Cs w2 tb b most last' L') (hk : Kp (fun k => k = tb ∨ k = b) w1 w2) {w2' : World} (b2 : Below w2.heap.size w2 w2')
    (hr : Rc w3 rb v' most last' L') (hk3 : Kp (fun k => k = rb ∨ v.ownBlock = some k) w2' w3) (hv : ∀ g, v'.ownBlock = some g → v.ownBlock = some g ∨ w2'.heap.size ≤ g) (hl : last' ≤ last + 1) {w4 : World} (b4 : Below w3.heap.size w3 w4) : SP most ⟨tb, b, rb, v, last, L⟩ w w4 ⟨tb, b, rb, v', last', L'⟩ := by
  have r2 := (h.below b1).rkp hk
  have c3 : Cs w3 tb b most last' L' := Ok1.ckp (hc.below b2) (r2.below b2) hk3
  have hz := hk.size
  refine ⟨⟨c3.below b4, hr.below b4⟩, rfl, rfl, hl, ?_, fun k hk => ?_⟩
  · have q1 : Kp (Pp.own ⟨tb, b, rb, v, last, L⟩) w w1 := Kp.of_below b1
    have q2 : Kp (Pp.own ⟨tb, b, rb, v, last, L⟩) w1 w2 := hk.mono fun k hk => by rcases hk with rfl | rfl; exact Or.inl rfl; exact Or.inr (Or.inl rfl)
    have q3 : Kp (Pp.own ⟨tb, b, rb, v, last, L⟩) w2 w2' := Kp.of_below b2
    have q4 : Kp (Pp.own ⟨tb, b, rb, v, last, L⟩) w2' w3 := hk3.mono fun k hk => by rcases hk with rfl | hk; exact Or.inr (Or.inr (Or.inl rfl)); exact Or.inr (Or.inr (Or.inr hk))
    have q5 : Kp (Pp.own ⟨tb, b, rb, v, last, L⟩) w3 w4 := Kp.of_below b4
    exact (((q1.trans q2 (fun _ _ h => h)).trans q3 (fun _ _ h => h)).trans q4 (fun _ _ h => h)).trans q5 (fun _ _ h => h)
  · rcases hk with hk | hk | hk | hk
    · exact Or.inl (Or.inl hk)
    · exact Or.inl (Or.inr (Or.inl hk))
    · exact Or.inl (Or.inr (Or.inr (Or.inl hk)))
    · rcases hv k hk with hk | hk
      · exact Or.inl (Or.inr (Or.inr (Or.inr hk)))
      · exact Or.inr (Nat.le_trans (Nat.le_trans b1.size (Nat.le_trans hz b2.size)) hk)
/-- Nothing of the pair's has changed. -/
theorem SP.of_below {p : Pp} {w w' : World} (h : Ok1 most p w) (hb : Below w.heap.size w w') : SP most p w w' p := ⟨h.below hb, rfl, rfl, by omega, Kp.of_below hb, fun _ h => Or.inl h⟩
end
end Go.Proofs.Ytabcibmdbancdaa
