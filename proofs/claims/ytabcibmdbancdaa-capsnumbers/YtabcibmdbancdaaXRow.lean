import Derived.Test.YtabcibmdbancdaaXMeth
import Derived.Test.YtabcibmdbancdaaXSo
import Derived.BigQuiet
namespace Go.Proofs.Ytabcibmdbancdaa
open Go.RowKit Go.Sort Go.Maps
attribute [local go_sem ↓] Go.wp_at_zero Go.wp_at_succ

theorem hid {p : Prop} (h : p) : Hid p := h
/-- Numbers, and what is held, in rows. -/
def EI : El Int where
  k := 1
  enc n := [.int .i64 n]
  len _ := rfl
  one x u hu := by simp at hu; subst hu; rfl
def EH : El Hd where
  k := 5
  enc h := [.int .i64 h.1, .int .i64 h.2.1, .int .u64 h.2.2.1, .int .u64 h.2.2.2.1, .int .u64 h.2.2.2.2]
  len _ := rfl
  one x u hu := by simp at hu; rcases hu with rfl | rfl | rfl | rfl | rfl <;> rfl
theorem infoH : (Try.prog.info? 38).map (fun i => (i.zero, i.size, i.bytes)) = some (some (hv (0, 0, 0, 0, 0)), 5, 40) := by kernel_rfl
theorem Ls.atI {w : World} {v : Value} {ts : List Int} (h : Ls EI w v ts) {j : Nat} {t : Int} (hj : ts[j]? = some t) :
    ∃ b off c, v = .slice (some ⟨b, off, none⟩) ts.length c ∧ b < w.heap.size ∧ w.cell? ⟨b, off + j, none⟩ = some (.int .i64 t) := by
  obtain ⟨b, off, c, hv, hb, hc⟩ := h.get hj
  have := hc 0 _ (by decide) rfl
  refine ⟨b, off, c, hv, hb, ?_⟩
  have e : off + j * EI.k + 0 = off + j := by show off + j * 1 + 0 = off + j; omega
  rw [e] at this
  exact this
theorem Ls.atH {w : World} {v : Value} {ts : List Hd} (h : Ls EH w v ts) {j : Nat} {t : Hd} (hj : ts[j]? = some t) :
    ∃ b off c, v = .slice (some ⟨b, off, none⟩) ts.length c ∧ b < w.heap.size ∧ w.cell? ⟨b, off + j * 5, none⟩ = some (.int .i64 t.1) ∧ w.cell? ⟨b, off + j * 5 + 1, none⟩ = some (.int .i64 t.2.1) ∧
      w.cell? ⟨b, off + j * 5 + 2, none⟩ = some (.int .u64 t.2.2.1) ∧ w.cell? ⟨b, off + j * 5 + 3, none⟩ = some (.int .u64 t.2.2.2.1) ∧ w.cell? ⟨b, off + j * 5 + 4, none⟩ = some (.int .u64 t.2.2.2.2) := by
  obtain ⟨b, off, c, hv, hb, hc⟩ := h.get hj
  exact ⟨b, off, c, hv, hb, hc 0 _ (by decide) rfl, hc 1 _ (by decide) rfl, hc 2 _ (by decide) rfl, hc 3 _ (by decide) rfl, hc 4 _ (by decide) rfl⟩

theorem run_eqT' (d : Nat) (a b c x y z : Int) (w : World) : Sem.run Try.prog (Op.equalIn (d + 2) 29 (.agg #[.int .u64 a, .int .u64 b, .int .u64 c]) (.agg #[.int .u64 x, .int .u64 y, .int .u64 z])) w = .ok (teq a b c x y z) w := by
  have u3 := Try.underlying27
  have a3 := Try.isAgg27
  have z3 := Try.sizeOf27
  have hS : Try.prog.underlying 29 = some (.struct (Try.prog.fieldsOf 29)) := by kernel_rfl
  have hp : Try.prog.stoodInHeld 29 = false := by kernel_rfl
  rw [show (d + 2 : Nat) = (d + 1) + 1 from rfl, run_equalIn_agg w (d + 1) 29 _ _ hS hp]
  simp only [Program.fieldsOf, Try.underlying29]
  go_simp
  by_cases h1 : a = x <;> by_cases h2 : b = y <;> by_cases h3 : c = z <;> simp [teq, h1, h2, h3]
theorem run_eqS' (d : Nat) (p a b c q x y z : Int) (w : World) : Sem.run Try.prog (Op.equalIn (d + 3) 31 (.agg #[.int .i64 p, .int .u64 a, .int .u64 b, .int .u64 c]) (.agg #[.int .i64 q, .int .u64 x, .int .u64 y, .int .u64 z])) w = .ok (p == q && teq a b c x y z) w := by
  have u4 := Try.underlying3
  have a4 := Try.isAgg3
  have z4 := Try.sizeOf3
  have a5 := Try.isAgg29
  have z5 := Try.sizeOf29
  have hP := run_eqT' d
  have hS : Try.prog.underlying 31 = some (.struct (Try.prog.fieldsOf 31)) := by kernel_rfl
  have hp : Try.prog.stoodInHeld 31 = false := by kernel_rfl
  rw [show (d + 3 : Nat) = (d + 2) + 1 from rfl, run_equalIn_agg w (d + 2) 31 _ _ hS hp]
  simp only [Program.fieldsOf, Try.underlying31]
  go_simp
  by_cases h1 : p = q <;> cases teq a b c x y z <;> simp [h1]
theorem run_eqH (h k : Hd) (w : World) : Sem.run Try.prog (Op.equalIn 10000 38 (hv h) (hv k)) w = .ok (decide (h = k)) w := by
  obtain ⟨i, p, a, b, c⟩ := h
  obtain ⟨j, q, x, y, z⟩ := k
  have u4 := Try.underlying3
  have a4 := Try.isAgg3
  have z4 := Try.sizeOf3
  have a5 := Try.isAgg31
  have z5 := Try.sizeOf31
  have hP := run_eqS' 9996
  have hS : Try.prog.underlying 38 = some (.struct (Try.prog.fieldsOf 38)) := by kernel_rfl
  have hp : Try.prog.stoodInHeld 38 = false := by kernel_rfl
  have hd : decide (((i, p, a, b, c) : Hd) = (j, q, x, y, z)) = (i == j && (p == q && teq a b c x y z)) := by
    rw [Bool.eq_iff_iff]
    simp [teq]
  rw [hd]
  clear hd
  rw [show (10000 : Nat) = 9999 + 1 from rfl, run_equalIn_agg w 9999 38 _ _ hS hp]
  simp only [Program.fieldsOf, Try.underlying38]
  go_simp
  by_cases h1 : i = j <;> by_cases h2 : p = q <;> cases teq a b c x y z <;> simp [h1, h2]

set_option maxHeartbeats 1000000 in
/-- same: the same lists. -/
theorem same_any {va vb : Value} {l : List Hd} (w : World) (ha : Ls EH w va l) (hb : Ls EH w vb l) (hl : l.length ≤ 140737488355328) : Calls Try.prog 11 #[va, vb] w fun e w' => e = .returned (.bool true) ∧ Gr w w' := by
  obtain ⟨pa, ca, rfl⟩ := ha.form
  obtain ⟨pb, cb, rfl⟩ := hb.form
  have heq := fun (s t : Hd) W => run_eqH s t W
  have hm : Try.prog.follows .mixedOrders = true := by kernel_rfl
  have Ha := hid ha
  have Hb := hid hb
  clear ha hb
  go_enter Try.func11, Try.ntmps11
  go_wp2_with fail
  go_loopw [5] (fun s5 wr => ∃ k : Nat, k ≤ l.length ∧ s5 = .int .i64 (k : Nat) ∧ Gr w wr) (fun s5 _ => l.length - (RowKit.intOf s5).toNat)
  case atStart => exact ⟨0, Nat.zero_le _, rfl, Gr.refl _⟩
  case round =>
    obtain ⟨k, hk, rfl, hgr⟩ := hrel
    by_cases hlt : k < l.length
    · have hltz : (k : Int) < (l.length : Int) := by omega
      have hk0 : (0 : Int) ≤ (k : Int) := by omega
      obtain ⟨s, hs⟩ : ∃ s, l[k]? = some s := ⟨l[k], by simp⟩
      obtain ⟨b1, o1, c1, e1, z1, x0, x1, x2, x3, x4⟩ := (Ha.out.below hgr.below).atH hs
      obtain ⟨b2, o2, c2, e2, z2, y0, y1, y2, y3, y4⟩ := (Hb.out.below hgr.below).atH hs
      simp only [Value.slice.injEq] at e1 e2
      obtain ⟨rfl, -, rfl⟩ := e1
      obtain ⟨rfl, -, rfl⟩ := e2
      have GR' := hid hgr
      clear hs hgr
      go_wp2_with fail
      go_quiet (fail)
      go_wp2_with fail
      go_roundw
      case rel => exact ⟨k + 1, by omega, by go_num, GR'.out.drewN _⟩
      case measure => simp [RowKit.intOf]; omega
    · have hltz : ¬ (k : Int) < (l.length : Int) := by omega
      go_wp2_with fail
      go_ret
      exact ⟨rfl, hgr⟩

set_option maxHeartbeats 1000000 in
theorem copy_any {tb b : Nat} {most last : Int} {L : List Hd} (w : World) (h : Cs w tb b most last L) :
    Calls Try.prog 14 #[.pointer (some ⟨tb, 0, none⟩)] w fun e w' => e = .returned (.pointer (some ⟨w.heap.size + 1, 0, none⟩)) ∧ Cs w' (w.heap.size + 1) w.heap.size most last L ∧ Gr w w' := by
  have hmx : Try.prog.follows .mixedOrders = true := by kernel_rfl
  have HC : Hid (Cs w tb b most last L) := h
  obtain ⟨D, hown, h1, h2, h3⟩ := h.mp
  obtain ⟨es, clock, hb, F, hs, hD⟩ := hown
  have hbl := (Array.getElem?_eq_some_iff.1 hb).1
  have S0 : w.cell? ⟨tb, 0, none⟩ = some (.int .i64 most) ∧ w.cell? ⟨tb, 1, none⟩ = some (.int .i64 last) ∧ w.cell? ⟨tb, 2, none⟩ = some (.map (some b)) ∧ tb < w.heap.size := ⟨h.c0, h.c1, h.c2, h.lt⟩
  have keepB : ∀ W W' : World, (W.cell? ⟨tb, 0, none⟩ = some (.int .i64 most) ∧ W.cell? ⟨tb, 1, none⟩ = some (.int .i64 last) ∧ W.cell? ⟨tb, 2, none⟩ = some (.map (some b)) ∧ tb < W.heap.size) → Below W.heap.size W W' → (W'.cell? ⟨tb, 0, none⟩ = some (.int .i64 most) ∧ W'.cell? ⟨tb, 1, none⟩ = some (.int .i64 last) ∧ W'.cell? ⟨tb, 2, none⟩ = some (.map (some b)) ∧ tb < W'.heap.size) := fun W W' h hb =>
    ⟨(hb.cell (p := ⟨tb, 0, none⟩) h.2.2.2).trans h.1, (hb.cell (p := ⟨tb, 1, none⟩) h.2.2.2).trans h.2.1, (hb.cell (p := ⟨tb, 2, none⟩) h.2.2.2).trans h.2.2.1, Nat.lt_of_lt_of_le h.2.2.2 hb.size⟩
  have hcl := AnyW.maps_Clone Try.lClone b es clock w.drew hb
  have hdr : ∀ o : Obj, Below w.drew.heap.size w.drew (w.drew.alloc o) := fun o => ((Gr.refl w.drew).alloc o).below
  clear h
  go_enter Try.func14, Try.ntmps14
  go_wp2_with fail
  go_region_held3 (fun w' => w'.cell? ⟨tb, 0, none⟩ = some (.int .i64 most) ∧ w'.cell? ⟨tb, 1, none⟩ = some (.int .i64 last) ∧ w'.cell? ⟨tb, 2, none⟩ = some (.map (some b)) ∧ tb < w'.heap.size)
    (first | exact S0 | exact keepB _ _ (by assumption) (Gr.refl _).drew.below | exact keepB _ _ (by assumption) (by assumption) | exact keepB _ _ (by assumption) ((Gr.refl _).alloc _).below)
    (first | (go_at_call 21; refine hcl.mono ?_; rintro e w5 ⟨rfl, rfl⟩))
  go_wp2
  go_ret
  refine ⟨rfl, ⟨heap_alloc2_new _ _ _, ⟨D, ⟨es, clock, heap_alloc2_old _ _ _, F, hs, hD⟩, h1, h2, h3⟩, HC.out.ri, HC.out.lo⟩, (((Gr.refl _).alloc _).alloc _).drew⟩
end Go.Proofs.Ytabcibmdbancdaa
