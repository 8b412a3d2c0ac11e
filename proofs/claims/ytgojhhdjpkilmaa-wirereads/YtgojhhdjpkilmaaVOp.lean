import Derived.Test.YtgojhhdjpkilmaaVTak
namespace Go.Proofs.Ytgojhhdjpkilmaa.Wi
open Go.RowKit Go.Sort
attribute [local go_sem ↓] Go.wp_at_zero Go.wp_at_succ

/-- One call of a script. -/
structure Opw where
  kind : Int
  two : Bool
  v : Nat
  n : Int
  u : Value
  l : List UInt8
/-- What is known of it. -/
structure OkOp (w : World) (o : Opw) : Prop where
  lb : Lb w o.u o.l
  cap : ∀ p n c, o.u = .slice p n c → n ≤ c
  hv : o.v < 18446744073709551616
  n0 : -9223372036854775808 ≤ o.n
  n1 : o.n ≤ 9223372036854775807
  len : o.l.length ≤ 9223372036854775807
theorem OkOp.below {w w' : World} {o : Opw} (h : OkOp w o) (hb : Below w.heap.size w w') : OkOp w' o := ⟨h.lb.below hb, h.cap, h.hv, h.n0, h.n1, h.len⟩
abbrev ov (o : Opw) : Value := .agg #[.int .i64 o.kind, .bool o.two, .int .u64 (o.v : Nat), .int .i64 o.n, o.u]
/-- A script that came in. -/
def ScrAt (w : World) (v : Value) (os : List Opw) : Prop := ∃ p c, v = .slice p os.length c ∧ ∀ i o, os[i]? = some o → OkOp w o ∧ ∃ b off, p = some ⟨b, off, none⟩ ∧ b < w.heap.size ∧ w.cell? ⟨b, off + i * 5, none⟩ = some (.int .i64 o.kind) ∧ w.cell? ⟨b, off + i * 5 + 1, none⟩ = some (.bool o.two) ∧ w.cell? ⟨b, off + i * 5 + 2, none⟩ = some (.int .u64 (o.v : Nat)) ∧ w.cell? ⟨b, off + i * 5 + 3, none⟩ = some (.int .i64 o.n) ∧ w.cell? ⟨b, off + i * 5 + 4, none⟩ = some o.u
theorem ScrAt.below {w w' : World} {v : Value} {os : List Opw} (h : ScrAt w v os) (hb : Below w.heap.size w w') : ScrAt w' v os := by
  obtain ⟨p, c, hv, h⟩ := h
  refine ⟨p, c, hv, fun i o hi => ?_⟩
  obtain ⟨h1, b, off, h2, h3, c0, c1, c2, c3, c4⟩ := h i o hi
  have e : ∀ j, w'.cell? ⟨b, j, none⟩ = w.cell? ⟨b, j, none⟩ := fun j => hb.cell (p := ⟨b, j, none⟩) h3
  exact ⟨h1.below hb, b, off, h2, Nat.lt_of_lt_of_le h3 hb.size, by rw [e]; exact c0, by rw [e]; exact c1, by rw [e]; exact c2, by rw [e]; exact c3, by rw [e]; exact c4⟩
/-- At most 65536 bytes. -/
def cutl (l : List UInt8) : List UInt8 := l.take 65536
def cutv : Value → Value
  | .slice p n c => .slice p (if 65536 < n then 65536 else n) c
  | v => v
theorem cutv_lb {w : World} {u : Value} {l : List UInt8} (h : Lb w u l) : Lb w (cutv u) (cutl l) := by
  rcases h with h | ⟨rfl, a, c, rfl⟩
  · obtain ⟨p, c, rfl⟩ := h.form
    unfold cutv cutl
    by_cases hb : 65536 < l.length
    · simp only [if_pos hb]
      rcases h with ⟨rfl, _⟩ | ⟨b, off, c', hv, hb', ht⟩
      · simp at hb
      · simp only [Value.slice.injEq, true_and] at hv
        obtain ⟨rfl, rfl⟩ := hv
        have hL : Ls EB w (.slice (some ⟨b, off, none⟩) l.length c) l := Or.inr ⟨b, off, c, rfl, hb', ht⟩
        exact Or.inl (hL.cut (by omega) _)
    · simp only [if_neg hb]
      rw [List.take_of_length_le (by omega)]
      exact Or.inl h
  · exact Or.inr ⟨rfl, a, c, rfl⟩
theorem cutl_len (l : List UInt8) : (cutl l).length ≤ 65536 ∧ (cutl l).length ≤ l.length := by
  unfold cutl
  rw [List.length_take]
  omega
theorem cut_any {u : Value} {l : List UInt8} (w : World) (h : Lb w u l) (hcap : ∀ p n c, u = .slice p n c → n ≤ c) : Calls Try.prog 42 #[u] w fun r w' => r = .returned (cutv u) ∧ w' = w := by
  obtain ⟨p, c, rfl⟩ := h.form
  have hc := hcap _ _ _ rfl
  clear h hcap
  unfold cutv
  by_cases hb : 65536 < l.length
  · have hz : (65536 : Int) < (l.length : Int) := by omega
    have hz2 : (65536 : Int) ≤ (c : Int) := by omega
    have hz3 : 65536 ≤ c := by omega
    simp only [if_pos hb]
    go_enter Try.func42, Try.ntmps42
    go_wp2
    go_ret
    exact ⟨rfl, rfl⟩
  · have hz : ¬ (65536 : Int) < (l.length : Int) := by omega
    simp only [if_neg hb]
    go_enter Try.func42, Try.ntmps42
    go_wp2
    go_ret
    exact ⟨rfl, rfl⟩
/-- The low byte of a number. -/
def byt (n : Int) : UInt8 := UInt8.ofNat (n % 256).toNat
theorem byt_nat (n : Int) : ((byt n).toNat : Int) = n % 256 := by
  unfold byt
  rw [u8_of (by omega)]
  omega
/-- What a call puts. -/
def piece (o : Opw) : List UInt8 := if o.kind = 1 then form o.v else if o.kind = 2 then form (fold o.n) else if o.kind = 3 then [byt o.n] else form (cutl o.l).length ++ cutl o.l
theorem piece_pos (o : Opw) : 0 < (piece o).length := by
  unfold piece
  split
  · exact form_pos _
  · split
    · exact form_pos _
    · split
      · simp
      · rw [List.length_append]
        have := form_pos (cutl o.l).length
        omega
theorem piece_le {w : World} {o : Opw} (h : OkOp w o) : (piece o).length ≤ 10 + o.l.length ∧ (piece o).length ≤ 65546 := by
  unfold piece
  have hc := cutl_len o.l
  split
  · have := form_ten h.hv; omega
  · split
    · have := form_ten (fold_lt h.n0 h.n1); omega
    · split
      · simp; omega
      · rw [List.length_append]
        have := form_ten (v := (cutl o.l).length) (by omega)
        omega
/-- All that is put by the first calls. -/
def pre (os : List Opw) (i : Nat) : List UInt8 := (os.take i).flatMap piece
theorem pre_succ {os : List Opw} {i : Nat} {o : Opw} (h : os[i]? = some o) : pre os (i + 1) = pre os i ++ piece o := by
  unfold pre
  rw [List.take_add_one, List.flatMap_append, h]
  simp
theorem pre_len {os : List Opw} {w : World} (h : ∀ (i : Nat) (o : Opw), os[i]? = some o → OkOp w o) (n : Nat) : (pre os n).length ≤ (os.map (fun o => 10 + o.l.length)).sum := by
  induction os generalizing n with
  | nil => simp [pre]
  | cons o os ih =>
    cases n with
    | zero => simp [pre]
    | succ n =>
      have h1 := ih (fun i o hi => h (i + 1) o (by simpa using hi)) n
      have h2 := (piece_le (h 0 o rfl)).1
      simp only [pre, List.take_succ_cons, List.flatMap_cons, List.length_append, List.map_cons, List.sum_cons] at *
      omega
end Go.Proofs.Ytgojhhdjpkilmaa.Wi
