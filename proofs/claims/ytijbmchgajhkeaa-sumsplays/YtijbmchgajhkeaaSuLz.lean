import Derived.Test.YtijbmchgajhkeaaSuRef2
namespace Go.Proofs.Ytijbmchgajhkeaa
open Go.RowKit Go.Sort Go.Maps Go.Shelf
attribute [local go_sem ↓] Go.wp_at_zero Go.wp_at_succ

/-- A list that is read; an empty one may lie anywhere. -/
def Lw {α : Type} (E : El α) (w : World) (v : Value) (l : List α) : Prop := Ls E w v l ∨ (l = [] ∧ ∃ p c, v = .slice p 0 c)
section
variable {α : Type} {E : El α} {w w' : World} {v : Value} {l : List α}
theorem Lw.below (h : Lw E w v l) (hb : Below w.heap.size w w') : Lw E w' v l := h.imp (fun h => h.below hb) id
theorem Lw.form (h : Lw E w v l) : ∃ p c, v = .slice p l.length c := by
  rcases h with h | ⟨rfl, p, c, rfl⟩
  · exact h.form
  · exact ⟨p, c, rfl⟩
theorem Lw.ls (h : Lw E w v l) {i : Nat} {x : α} (hi : l[i]? = some x) : Ls E w v l := by
  rcases h with h | ⟨rfl, _⟩
  · exact h
  · simp at hi
theorem Lw.kp {S : Nat → Prop} (h : Lw E w v l) (hk : Kp S w w') (hS : ∀ k, v.ownBlock = some k → ¬ S k) : Lw E w' v l := h.imp (fun h => hk.ls h hS) id
end
theorem append_none_cap {P : Program} (w : World) (t ty : TypeId) (v : Value) (c : Nat) : (Builtin.append_ #[t, t] ty #[v, .slice none 0 c]).run P w = (Builtin.append_ #[t, t] ty #[v, .slice none 0 0]).run P w := rfl
/-- 'append(own, l...)' as a step of a region that draws; l may be an empty list that lies anywhere. -/
theorem step_appW {P : Program} {α : Type} (E : El α) {e sT : TypeId} {z : Value} {bt : Nat} (hu : P.underlying sT = some (.slice e)) (hI : (P.info? e).map (fun i => (i.zero, i.size, i.bytes)) = some (some z, E.k, bt)) (hz : z.cells.size = E.k) (hk : 0 < E.k)
    {w : World} {ops : Array Oper} {o : Oper} {a : Act} {K : Act → World → Prop} {Q : Exit → Act → World → Prop} {X : Prop} (hgd : o.guard = none) (s x : Operand)
    (ho : o.op = .call { callee := .builtin .append, args := #[s, x], argTypes := #[sT, sT] })
    (base : Nat) (v0 : Value) (n : Nat) (xs : List Value) (hs : a.eval s = v0) (hown : w.ownsRow base e E.k v0 n xs) (hbase : base ≤ w.heap.size) (v1 : Value) (ts : List α) (hx : a.eval x = v1) (hv : Lw E w v1 ts) (hbig : (n + ts.length) * bt ≤ 140737488355328) (hmx : n + ts.length ≤ maxLen)
    (h : ∀ v' w', Hid (w'.ownsRow base e E.k v' (n + ts.length) (xs ++ fl E ts)) → Hid (w.grownBy w' v0.ownBlock) → K (a.put o.dst v') w') :
    if Region.wanted o (yielded ops a.tmps) = true then Oper.wp P o a w K Q else X := by
  rcases hv with hv | ⟨rfl, p, c, rfl⟩
  · exact step_appL E hu hI hz hk hgd s x ho base v0 n xs hs hown hbase v1 ts hx hv hbig hmx h
  · have hw : Region.wanted o (yielded ops a.tmps) = true := by simp [Region.wanted, hgd]
    rw [if_pos hw]
    obtain ⟨i0, hi, hz0, hz1, hz2⟩ := info_parts hI
    cases p with
    | none =>
      have hrun := run_append_owned_none (P := P) (w := w) base sT o.type e i0 E.k hu hi v0 n xs hown
      rw [← append_none_cap (P := P) w sT o.type v0 c] at hrun
      unfold Oper.wp
      simp [execOp, ho, resolve, invoke, builtin, hs, hx, hrun, Result.andThen]
      exact h _ _ (show _ from by have h5 : w.ownsRow base e E.k v0 (n + ([] : List α).length) (xs ++ fl E []) := (by simpa [fl] using hown); exact h5) ⟨rfl, rfl, rfl, Nat.le_refl _, fun _ _ _ => rfl⟩
    | some b =>
      obtain ⟨v', w', hr, h2, h3, _, _⟩ := run_append_own_at (P := P) w base sT o.type e i0 _ E.k bt hu hi hz0 hz1 hz2 hz hk v0 n xs hown b 0 c [] (by simp) (fun j u hj => by simp at hj) (fun u hu => by cases hu) hmx hbig hbase
      unfold Oper.wp execOp
      simp only [ho, resolve, invoke, builtin, Sem.run_bind, Sem.run_pure, Result.andThen_ok, List.map_toArray, List.map_cons, List.map_nil, hs, hx, hr]
      exact h v' w' h2 h3
/-- '==' of a list and one that is read. -/
theorem times_eqW {a b : Value} {l : List Tm} (w : World) (ha : Ls ET w a l) (hb : Lw ET w b l) (hl : l.length ≤ 5864062014806) : Calls Try.prog 8 #[a, b] w fun e w' => e = .returned (.bool true) ∧ Gr w w' := by
  rcases hb with hb | ⟨rfl, p, c, rfl⟩
  · exact times_eq w ha hb hl
  · obtain ⟨p1, c1, rfl⟩ := ha.form
    go_enter Try.func8, Try.ntmps8
    go_wp2_with fail
    go_loopw [13] (fun s13 wr => s13 = .int .i64 0 ∧ wr = w) (fun _ _ => 0)
    case atStart => exact ⟨rfl, rfl⟩
    case round =>
      obtain ⟨rfl, rfl⟩ := hrel
      go_wp2
      go_ret
      exact ⟨rfl, Gr.refl _⟩
end Go.Proofs.Ytijbmchgajhkeaa
