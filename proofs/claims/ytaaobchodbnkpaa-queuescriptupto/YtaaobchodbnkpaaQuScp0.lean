import Derived.Test.YtaaobchodbnkpaaQuScr
import Derived.Test.YtaaobchodbnkpaaQuKn
import Derived.Test.YtaaobchodbnkpaaQuSty
import Derived.Test.YtaaobchodbnkpaaLStep
namespace Go.Proofs.Ytaaobchodbnkpaa.Qe
open Go.RowKit Go.Sort
attribute [local go_sem ↓] Go.wp_at_zero Go.wp_at_succ
/-- A step of the script. -/
abbrev St3 : Type := Int × Int × Ms
def EOp : El St3 where
  k := 8
  enc s := [.int .i64 s.1, .int .i64 s.2.1, .int .i64 s.2.2.at_, .int .u64 s.2.2.a, .int .u64 s.2.2.b, .int .u64 s.2.2.c, .int .u64 s.2.2.k, .int .u64 s.2.2.v]
  len _ := rfl
  one s u hu := by
    simp at hu
    rcases hu with rfl | rfl | rfl | rfl | rfl | rfl | rfl | rfl <;> rfl
/-- What holds behind i steps. -/
def Iv (w : World) (N kb i m : Nat) (sQ sR : Value) (wr : World) : Prop := 1 ≤ m ∧ ∃ tag hb rb Q L, Sq w wr tag m i N kb (2 * i) (2 * i) hb rb Q L sQ sR
/-- Pointers as elements. -/
def EQ : El Nat where
  k := 1
  enc x := [.pointer (some ⟨x, 0, none⟩)]
  len _ := rfl
  one x u hu := by
    simp at hu
    subst hu; rfl
theorem made_one {w : World} {e : TypeId} (v : Value) : (w.alloc (.cells #[v] e)).ownsRow w.heap.size e 1 (.slice (some ⟨w.heap.size, 0, none⟩) 1 1) 1 [v] :=
  ⟨rfl, Or.inr ⟨w.heap.size, 1, #[v], rfl, Nat.le_refl _, heap_new' _ _, Nat.le_refl _, by unfold maxLen; decide, rfl, rfl⟩⟩
theorem own_eq1 {g n c k : Nat} (h : (Value.slice (some ⟨g, 0, none⟩) n c).ownBlock = some k) : g = k := by simpa [Value.ownBlock] using h
/-- As it begins. -/
theorem Iv.init {w w1 w2 w3 w4 : World} {qb rb N : Nat} (hP : Pq w1 (fun k => w.heap.size ≤ k) qb N 0 (fun _ => [])) (hG : Below w.heap.size w w1) (hR : Rd w2 (fun k => w1.heap.size ≤ k) rb N (.slice none 0 0) []) (hG2 : Below w1.heap.size w1 w2) (hB3 : Below w2.heap.size w2 w3)
    (h4 : w4 = ((w3.alloc (.cells #[.pointer (some ⟨qb, 0, none⟩)] 24)).alloc (.cells #[.pointer (some ⟨rb, 0, none⟩)] 55)).alloc (.cells #[.slice none 0 0, .slice none 0 0, .slice none 0 0, .slice none 0 0] 64)) :
    Iv w N (w3.heap.size + 2) 0 1 (.slice (some ⟨w3.heap.size, 0, none⟩) 1 1) (.slice (some ⟨w3.heap.size + 1, 0, none⟩) 1 1) w4 := by
  have hz0 := hG.size
  have hz1 := hG2.size
  have hz3 := hB3.size
  have hr2 := hR.lt
  obtain ⟨wa, hwa⟩ : ∃ wa, wa = w3.alloc (.cells #[.pointer (some ⟨qb, 0, none⟩)] 24) := ⟨_, rfl⟩
  obtain ⟨wb, hwb⟩ : ∃ wb, wb = wa.alloc (.cells #[.pointer (some ⟨rb, 0, none⟩)] 55) := ⟨_, rfl⟩
  have hsa : wa.heap.size = w3.heap.size + 1 := by rw [hwa]; simp
  have hsb : wb.heap.size = w3.heap.size + 2 := by rw [hwb]; simp; omega
  rw [← hwa, ← hwb] at h4
  have o1 : wa.ownsRow w3.heap.size 24 1 (.slice (some ⟨w3.heap.size, 0, none⟩) 1 1) 1 [.pointer (some ⟨qb, 0, none⟩)] := by rw [hwa]; exact made_one _
  have o2 : wb.ownsRow wa.heap.size 55 1 (.slice (some ⟨w3.heap.size + 1, 0, none⟩) 1 1) 1 [.pointer (some ⟨rb, 0, none⟩)] := by
    have := made_one (w := wa) (e := 55) (.pointer (some ⟨rb, 0, none⟩))
    rw [hsa] at this ⊢
    rw [hwb]
    exact this
  have h3 : w4.heap[w3.heap.size + 2]? = some (.cells #[.slice none 0 0, .slice none 0 0, .slice none 0 0, .slice none 0 0] 64 (0, 0)) := by rw [h4, ← hsb]; exact heap_new' _ _
  have g4 : Gr wb w4 := by rw [h4]; exact (Gr.refl _).alloc _
  have gb : Gr wa wb := by rw [hwb]; exact (Gr.refl _).alloc _
  have ga : Gr w3 wa := by rw [hwa]; exact (Gr.refl _).alloc _
  have g34 : Gr w3 w4 := (ga.trans gb).trans g4
  have B24 : Below w2.heap.size w2 w4 := hB3.trans (g34.below.mono hB3.size)
  have B14 : Below w1.heap.size w1 w4 := hG2.trans (B24.mono hG2.size)
  refine ⟨Nat.le_refl _, fun k => if k < w.heap.size then 0 else if k < w1.heap.size then 4 else if k < w2.heap.size then 5 else if k = w3.heap.size then 1 else if k = w3.heap.size + 1 then 2 else if k = w3.heap.size + 2 then 3 else 0, fun _ => qb, fun _ => rb, fun _ _ => [], fun _ => [], fun i hi => ?_, ⟨?_, fun g hg => ?_⟩, ⟨?_, fun g hg => ?_⟩, ⟨0, 0, .slice none 0 0, .slice none 0 0, .slice none 0 0, .slice none 0 0, fun _ => .slice none 0 0, fun _ => .slice none 0 0, fun _ => .slice none 0 0, fun _ => .slice none 0 0, fun _ => [], fun _ => [], ⟨h3, ?_, ?_, ?_, ?_, ?_⟩, Nat.le_refl _, Nat.le_refl _, fun i hi => by omega, fun i hi => by omega⟩, by omega, fun k hk => ?_, ?_⟩
  · have hi0 : i = 0 := by omega
    subst hi0
    refine ⟨((hP.old.below B14).mono (fun k _ e => ?_) (Nat.le_refl _)), ⟨_, ((hR.old.below B24).mono (fun k _ e => ?_))⟩, Rl.nil N, Nat.le_refl _⟩
    · dsimp only
      rw [if_neg (by omega), if_pos (by omega)]
    · dsimp only
      rw [if_neg (by omega), if_neg (by omega), if_pos (by omega)]
  · exact owns_base (owns_below o1 (gb.trans g4).below) (Nat.zero_le _)
  · have e := own_eq1 hg
    rw [← e]
    try dsimp only
    rw [if_neg (by omega), if_neg (by omega), if_neg (by omega), if_pos rfl]
  · exact owns_base (owns_below o2 g4.below) (Nat.zero_le _)
  · have e := own_eq1 hg
    rw [← e]
    try dsimp only
    rw [if_neg (by omega), if_neg (by omega), if_neg (by omega), if_neg (by omega), if_pos rfl]
  · try dsimp only
    rw [if_neg (by omega), if_neg (by omega), if_neg (by omega), if_neg (by omega), if_neg (by omega), if_pos rfl]
  · exact ⟨⟨World.ownsRow_nil _ _ _ _, fun g hg => by simp [Value.ownBlock] at hg⟩, fun p hp => by omega⟩
  · exact ⟨⟨World.ownsRow_nil _ _ _ _, fun g hg => by simp [Value.ownBlock] at hg⟩, fun p hp => by omega⟩
  · exact ⟨⟨World.ownsRow_nil _ _ _ _, fun g hg => by simp [Value.ownBlock] at hg⟩, fun p hp => by omega⟩
  · exact ⟨⟨World.ownsRow_nil _ _ _ _, fun g hg => by simp [Value.ownBlock] at hg⟩, fun p hp => by omega⟩
  · try dsimp only
    rw [if_pos hk]
  · exact hG.trans (B14.mono hz0)
theorem opl_at {w : World} {v : Value} {ts : List St3} (h : Ls EOp w v ts) {j : Nat} {s : St3} (hj : ts[j]? = some s) :
    ∃ b off c, v = .slice (some ⟨b, off, none⟩) ts.length c ∧ b < w.heap.size ∧ w.cell? ⟨b, off + j * 8, none⟩ = some (.int .i64 s.1) ∧ w.cell? ⟨b, off + j * 8 + 1, none⟩ = some (.int .i64 s.2.1) ∧ w.cell? ⟨b, off + j * 8 + 2, none⟩ = some (.int .i64 s.2.2.at_) ∧ w.cell? ⟨b, off + j * 8 + 3, none⟩ = some (.int .u64 s.2.2.a) ∧ w.cell? ⟨b, off + j * 8 + 4, none⟩ = some (.int .u64 s.2.2.b) ∧ w.cell? ⟨b, off + j * 8 + 5, none⟩ = some (.int .u64 s.2.2.c) ∧ w.cell? ⟨b, off + j * 8 + 6, none⟩ = some (.int .u64 s.2.2.k) ∧ w.cell? ⟨b, off + j * 8 + 7, none⟩ = some (.int .u64 s.2.2.v) := by
  obtain ⟨b, off, c, hv, hb, hc⟩ := h.get hj
  exact ⟨b, off, c, hv, hb, hc 0 _ (by decide) rfl, hc 1 _ (by decide) rfl, hc 2 _ (by decide) rfl, hc 3 _ (by decide) rfl, hc 4 _ (by decide) rfl, hc 5 _ (by decide) rfl, hc 6 _ (by decide) rfl, hc 7 _ (by decide) rfl⟩
end Go.Proofs.Ytaaobchodbnkpaa.Qe
