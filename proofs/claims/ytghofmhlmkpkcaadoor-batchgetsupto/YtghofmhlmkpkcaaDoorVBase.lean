import Derived.Test.YtghofmhlmkpkcaaDoorRows
import Derived.Test.YtghofmhlmkpkcaaDoorVPure
import Derived.Test.YtghofmhlmkpkcaaDoorLRow
import Derived.WalkKit
import Derived.WalkSpells
import Derived.Deep.RegionHeld3
import Derived.Deep.DrawnRows
import Derived.Deep.DeepCutAuto
import Derived.Deep.LoopGhost
import Derived.Deep.QuietTactic
import Derived.BigQuiet
import Derived.Shelf.SlSortCmp.QuietGrown
import Derived.Deep.RegionLaw
import Derived.Deep.RegionWith
namespace Go.Proofs.YtghofmhlmkpkcaaDoor.Wi
open Go.RowKit Go.Sort
attribute [local go_sem ↓] Go.wp_at_zero Go.wp_at_succ

theorem hid {p : Prop} (h : p) : Hid p := h
/-- Bytes. -/
abbrev bv (x : UInt8) : Value := .int .u8 (x.toNat : Nat)
def EB : El UInt8 where
  k := 1
  enc x := [bv x]
  len _ := rfl
  one x u hu := by
    simp at hu
    subst hu
    rfl
theorem ls_at {w : World} {v : Value} {ts : List UInt8} (h : Ls EB w v ts) {j : Nat} {x : UInt8} (hj : ts[j]? = some x) :
    ∃ b off c, v = .slice (some ⟨b, off, none⟩) ts.length c ∧ b < w.heap.size ∧ w.cell? ⟨b, off + j, none⟩ = some (bv x) := by
  obtain ⟨b, off, c, hv, hb, hc⟩ := h.get hj
  have h0 := hc 0 _ (by decide) rfl
  exact ⟨b, off, c, hv, hb, by simpa [EB] using h0⟩
theorem infoB : (Tryd.prog.info? 5).map (fun i => (i.zero, i.size, i.bytes)) = some (some (.int .u8 0), 1, 1) := by kernel_rfl
theorem fl_eb (l : List UInt8) (j : Nat) (x : UInt8) (h : l[j]? = some x) : (fl EB l)[j]? = some (bv x) := by
  have := fl_get EB l j 0 x h (by decide)
  simpa [EB] using this
/-- As a text. -/
abbrev tx (l : List UInt8) : Value := .string ⟨l.toArray⟩
theorem to_text {w : World} {v : Value} {l : List UInt8} (h : Ls EB w v l) : (convert 22 9 v).run Tryd.prog w = .ok (tx l) w := by
  rcases h with ⟨rfl, rfl⟩ | ⟨b, off, c, rfl, hb, ht⟩
  · rw [run_convert_bytes_string w _ _ 5 none 0 0 Tryd.underlying22 Tryd.underlying5 Tryd.underlying9]
    rfl
  · refine run_convert_bytes_back w _ _ 5 ⟨b, off, none⟩ c l Tryd.underlying22 Tryd.underlying5 Tryd.underlying9 (fun j hj => ?_)
    rw [addA]
    exact ht j _ (fl_eb l j _ (by rw [List.getElem?_eq_getElem hj]))
/-- A slice value that reads as these bytes; an empty one may lie anywhere. -/
def Lb (w : World) (v : Value) (l : List UInt8) : Prop := Ls EB w v l ∨ (l = [] ∧ ∃ a c, v = .slice (some a) 0 c)
theorem Lb.form {w : World} {v : Value} {l : List UInt8} (h : Lb w v l) : ∃ p c, v = .slice p l.length c := by
  rcases h with h | ⟨rfl, a, c, rfl⟩
  · exact h.form
  · exact ⟨_, _, rfl⟩
theorem Lb.kept {w w' : World} {v : Value} {l : List UInt8} (h : Lb w v l) (hs : w.heap.size ≤ w'.heap.size) (hb : ∀ g, g < w.heap.size → v.ownBlock = some g → w'.heap[g]? = w.heap[g]?) : Lb w' v l := by
  rcases h with h | h
  · exact Or.inl (h.kept hs (fun g hg => hb g (h.blk g hg) hg))
  · exact Or.inr h
theorem Lb.below {w w' : World} {v : Value} {l : List UInt8} (h : Lb w v l) (hb : Below w.heap.size w w') : Lb w' v l := h.kept hb.size (fun g hg _ => hb.block g hg)
theorem Lb.kp {S : Nat → Prop} {w w' : World} {v : Value} {l : List UInt8} (h : Lb w v l) (hk : Kp S w w') (hS : ∀ k, k < w.heap.size → v.ownBlock = some k → ¬ S k) : Lb w' v l := h.kept hk.size (fun g hg hv => hk.block g hg (hS g hg hv))
theorem to_textB {w : World} {v : Value} {l : List UInt8} (h : Lb w v l) : (convert 22 9 v).run Tryd.prog w = .ok (tx l) w := by
  rcases h with h | ⟨rfl, a, c, rfl⟩
  · exact to_text h
  · exact run_convert_bytes_back w _ _ 5 a c [] Tryd.underlying22 Tryd.underlying5 Tryd.underlying9 (fun j hj => by simp at hj)
/-- What a call may turn of a list: its row. -/
def Tn (v v' : Value) (w w' : World) : Prop := Kp (fun k => v.ownBlock = some k) w w' ∧ ∀ g, v'.ownBlock = some g → v.ownBlock = some g ∨ w.heap.size ≤ g
theorem Tn.refl (v : Value) (w : World) : Tn v v w w := ⟨Kp.refl _ _, fun _ h => Or.inl h⟩
theorem Tn.of_gr {v : Value} {w w' : World} (h : Gr w w') : Tn v v w w' := ⟨Kp.of_gr h, fun _ h => Or.inl h⟩
theorem Tn.trans {v1 v2 v3 : Value} {a b c : World} (h : Tn v1 v2 a b) (k : Tn v2 v3 b c) : Tn v1 v3 a c := by
  refine ⟨h.1.trans k.1 fun j hj hs => ?_, fun g hg => ?_⟩
  · rcases h.2 j hs with h1 | h1
    · exact h1
    · omega
  · rcases k.2 g hg with h1 | h1
    · exact h.2 g h1
    · exact Or.inr (Nat.le_trans h.1.size h1)
/-- A row of bytes that is owned. -/
abbrev Ow (w : World) (v : Value) (L : List UInt8) : Prop := w.ownsRow 0 5 1 v L.length (fl EB L)
theorem ow_ls {w : World} {v : Value} {L : List UInt8} (h : Ow w v L) : Ls EB w v L := owns_ls (E := EB) h
theorem ow_nil (w : World) : Ow w (.slice none 0 0) [] := World.ownsRow_nil _ _ _ _
theorem or128 (k : Nat) (h : k < 128) : bits .or .u8 (k : Int) 128 = (k : Int) + 128 := by
  have : ∀ k : Fin 128, bits .or .u8 (k.val : Int) 128 = (k.val : Int) + 128 := by decide +kernel
  exact this ⟨k, h⟩

theorem run_append_void {P : Program} {w : World} (base : Nat) (t ty e : TypeId) (i : TypeInfo) (size : Nat) (ht : P.underlying t = some (.slice e)) (hi : P.info? e = some i)
    (v : Value) (n : Nat) (xs : List Value) (hown : w.ownsRow base e size v n xs) (a : Addr) (c : Nat) : (Builtin.append_ #[t, t] ty #[v, .slice (some a) 0 c]).run P w = .ok v w := by
  have hf := run_firstCells_some (P := P) w i.size 0 a 0 c [] (by simp) (by simp)
  rcases hown.2 with ⟨rfl, rfl⟩ | ⟨g, cap, cur, rfl, _, _, hnc, _⟩
  · simp [Builtin.append_, run_underlying ht, sizeOf, typeInfo, hi, Builtin.lenOf, hf]
  · simp [Builtin.append_, run_underlying ht, sizeOf, typeInfo, hi, Builtin.lenOf, hf, hnc, storeCells]
section
variable {w : World} {ops : Array Oper} {rest : List Oper} {o : Oper} {a : Act} {Q : Exit → Act → World → Prop}
/-- 'append(own, x)' of bytes. -/
theorem wpB1 (hgd : o.guard = none) (s x : Operand) (ho : o.op = .call { callee := .builtin .append, args := #[s, x], argTypes := #[22, 22] })
    (v : Value) (L : List UInt8) (hs : a.eval s = v) (hown : Ow w v L) (t : UInt8) (hx : a.eval x = .slice (some ⟨w.heap.size, 0, none⟩) 1 1) (hbig : L.length + 1 ≤ 140737488355328)
    (n : Int) (hn : n = (t.toNat : Int)) (te : TypeId)
    (h : ∀ v' w', Hid (Ow w' v' (L ++ [t])) → Hid (Tn v v' w w') → wpList Tryd.prog ops Q rest (a.put o.dst v') w') :
    wpList Tryd.prog ops Q (o :: rest) a (w.alloc (.cells #[.int .u8 n] te)) := by
  subst hn
  refine wpApp1 EB Tryd.underlying22 infoB rfl (by decide) hgd s x ho 0 v L.length _ hs hown t hx (by omega) (by unfold maxLen; omega) (Nat.zero_le _) _ rfl te ?_
  intro g cap w' h1 h2 h3
  refine h _ w' (owns_re h1 (by simp) (by rw [fl_append, fl_one])) ⟨Kp.grownBy h2 (fun _ h => h), fun k hk => ?_⟩
  simp [Value.ownBlock] at hk
  subst hk
  exact h3
/-- 'append(own, l...)' of bytes. -/
theorem wpBL (hgd : o.guard = none) (s x : Operand) (ho : o.op = .call { callee := .builtin .append, args := #[s, x], argTypes := #[22, 22] })
    (base : Nat) (v : Value) (L : List UInt8) (hs : a.eval s = v) (hown : w.ownsRow base 5 1 v L.length (fl EB L)) (v1 : Value) (l : List UInt8) (hx : a.eval x = v1) (hv : Lb w v1 l) (hbig : L.length + l.length ≤ 140737488355328) (hbase : base ≤ w.heap.size)
    (h : ∀ v' w', Hid (w'.ownsRow base 5 1 v' (L ++ l).length (fl EB (L ++ l))) → Hid (Tn v v' w w') → wpList Tryd.prog ops Q rest (a.put o.dst v') w') :
    wpList Tryd.prog ops Q (o :: rest) a w := by
  obtain ⟨i0, hi, hz0, hz1, hz2⟩ := info_parts infoB
  have hvoid : ∀ (ad : Addr) (c : Nat), l = [] → v1 = .slice (some ad) 0 c → wpList Tryd.prog ops Q (o :: rest) a w := fun ad c h0 h1 => by
    subst h0
    subst h1
    refine wpList_plain hgd fun K hK => ?_
    have hrun := run_append_void (P := Tryd.prog) (w := w) base 22 o.type _ i0 1 Tryd.underlying22 hi v L.length _ hown ad c
    unfold Oper.wp
    simp [execOp, ho, resolve, invoke, builtin, hs, hx, hrun, Result.andThen]
    exact hK _ _ (h v w (by rw [List.append_nil]; exact hown) (Tn.refl _ _))
  rcases hv with (⟨rfl, rfl⟩ | ⟨b, off, c, rfl, hb, ht⟩) | ⟨h0, ad, c, h1⟩
  · refine wpList_append_own_none hgd s x _ ho base _ i0 1 Tryd.underlying22 hi v L.length _ hs hown hx ?_
    exact h v w (by rw [List.append_nil]; exact hown) (Tn.refl _ _)
  · rcases Nat.eq_zero_or_pos l.length with h0 | h0
    · exact hvoid ⟨b, off, none⟩ c (List.eq_nil_of_length_eq_zero h0) (by rw [h0])
    · refine wpList_append_lies _ hgd s x _ ho base _ i0 _ 1 1 Tryd.underlying22 hi hz0 hz1 hz2 rfl (by decide) v L.length _ hs hown ⟨b, off, none⟩ l.length c (fl EB l) hx (fl_length EB l) (fun j u hj => by rw [addA]; exact ht j u hj) (fl_oneCell EB l) h0 (by unfold maxLen; omega) (by omega) hbase _ rfl ?_
      intro g cap w' h1 h2 h3 _
      refine h _ w' (owns_re h1 (by simp) (by rw [fl_append])) ⟨Kp.grownBy h2 (fun _ h => h), fun k hk => ?_⟩
      simp [Value.ownBlock] at hk
      subst hk
      exact h3.imp id (fun h => by omega)
  · exact hvoid ad c h0 h1
end
set_option maxHeartbeats 1000000 in
set_option maxRecDepth 100000 in
theorem form_any {v : Value} {L : List UInt8} (u : Nat) (hu : u < 18446744073709551616) (w : World) (hL : Ow w v L) (hl : L.length + 10 ≤ 140737488355328) :
    Calls Tryd.prog 49 #[v, .int .u64 u] w fun e w' => ∃ v', e = .returned v' ∧ Ow w' v' (L ++ form u) ∧ Tn v v' w w' := by
  have hmx : Tryd.prog.follows .mixedOrders = true := by kernel_rfl
  go_enter Tryd.func49, Tryd.ntmps49
  go_wp2_with fail
  go_loopw [0, 1] (fun s0 s1 wr => ∃ (v1 : Value) (P : List UInt8) (u1 : Nat), s0 = v1 ∧ s1 = .int .u64 u1 ∧ Hid (Ow wr v1 (L ++ P) ∧ Tn v v1 w wr ∧ P ++ form u1 = form u ∧ u1 ≤ u)) (fun _ s1 _ => (RowKit.intOf s1).toNat)
  case atStart => exact ⟨v, [], u, rfl, rfl, by rw [List.append_nil]; exact hL, Tn.refl _ _, rfl, Nat.le_refl _⟩
  case round =>
    obtain ⟨v1, P, u1, rfl, rfl, HI⟩ := hrel
    have HPL : Hid (P.length + 1 ≤ 10) := by
      have h1 := congrArg List.length HI.out.2.2.1
      have h2 := form_ten hu
      have h3 := form_pos u1
      rw [List.length_append] at h1
      show P.length + 1 ≤ 10
      omega
    by_cases hs : u1 < 128
    · have hsz : ¬ (128 : Int) ≤ (u1 : Int) := by omega
      go_wp2_with (at_builtin; refine wpB1 rfl _ _ rfl _ (L ++ P) rfl HI.out.1 (UInt8.ofNat u1) rfl (by rw [List.length_append]; have := HPL.out; omega) _ (by rw [u8_of (by omega)]) _ ?_)
      intro v' w' h1 h2
      go_wp2_with fail
      go_ret
      refine ⟨v', rfl, ?_, HI.out.2.1.trans h2.out⟩
      rw [← HI.out.2.2.1, form_small hs]
      simpa using h1.out
    · have hsz : (128 : Int) ≤ (u1 : Int) := by omega
      go_wp2_with (at_builtin; refine wpB1 rfl _ _ rfl _ (L ++ P) rfl HI.out.1 (UInt8.ofNat (u1 % 128 + 128)) rfl (by rw [List.length_append]; have := HPL.out; omega) _ (by rw [u8_of (by omega)]; exact or128 (u1 % 128) (by omega)) _ ?_)
      intro v' w' h1 h2
      go_wp2_with fail
      go_roundw
      case rel => exact ⟨v', P ++ [UInt8.ofNat (u1 % 128 + 128)], u1 / 128, rfl, rfl, by simpa using h1.out, HI.out.2.1.trans h2.out, by rw [List.append_assoc, List.singleton_append, ← form_great hs]; exact HI.out.2.2.1, Nat.le_trans (Nat.div_le_self _ _) HI.out.2.2.2⟩
      case measure => simp [RowKit.intOf]; omega
end Go.Proofs.YtghofmhlmkpkcaaDoor.Wi
