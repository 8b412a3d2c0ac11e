import Derived.Test.YtghpekkncfckaaaCaScr
namespace Go.Proofs.Ytghpekkncfckaaa.Ca
open Go.RowKit Go.Sort
attribute [local go_sem ↓] Go.wp_at_zero Go.wp_at_succ
/-- A step of a script. -/
structure Opx where
  kd : Int
  on : Int
  l : List Ct
  pl : Option Addr
  cl : Nat
  t : T3
  f : List T3
  pf : Option Addr
  cf : Nat
  ky : Int
instance : Inhabited Opx := ⟨⟨0, 0, [], none, 0, (0, 0, 0), [], none, 0, 0⟩⟩
def EO : El Opx where
  k := 8
  enc o := [.int .i64 o.kd, .int .i64 o.on, .slice o.pl o.l.length o.cl, .int .u64 o.t.1, .int .u64 o.t.2.1, .int .u64 o.t.2.2, .slice o.pf o.f.length o.cf, .int .u64 o.ky]
  len _ := rfl
  one x u hu := by
    simp at hu
    rcases hu with rfl | rfl | rfl | rfl | rfl | rfl | rfl | rfl <;> rfl
/-- The lists of a step. -/
def Fits (w : World) (o : Opx) : Prop := Lw EC w (.slice o.pl o.l.length o.cl) o.l ∧ Lw ET w (.slice o.pf o.f.length o.cf) o.f ∧ o.f.length ≤ 1048576
/-- How many are handed in, in all. -/
def tot (sc : List Opx) : Nat := (sc.map fun o => o.l.length).sum
theorem tot_snoc {sc : List Opx} {i : Nat} {o : Opx} (h : sc[i]? = some o) : tot (sc.take (i + 1)) = tot (sc.take i) + o.l.length := by
  unfold tot
  rw [List.take_add_one, h, List.map_append, List.sum_append]
  simp
theorem tot_le (sc : List Opx) (i : Nat) : tot (sc.take i) ≤ tot sc := by
  unfold tot
  have e := List.take_append_drop i sc
  have h : (sc.map fun o => o.l.length).sum = ((sc.take i).map fun o => o.l.length).sum + ((sc.drop i).map fun o => o.l.length).sum := by
    rw [← List.sum_append, ← List.map_append, e]
  omega
theorem atO {w : World} {v : Value} {ts : List Opx} (h : Ls EO w v ts) {j : Nat} {o : Opx} (hj : ts[j]? = some o) :
    ∃ b off c, v = .slice (some ⟨b, off, none⟩) ts.length c ∧ b < w.heap.size ∧ w.cell? ⟨b, off + j * 8, none⟩ = some (.int .i64 o.kd) ∧ w.cell? ⟨b, off + j * 8 + 1, none⟩ = some (.int .i64 o.on) ∧ w.cell? ⟨b, off + j * 8 + 2, none⟩ = some (.slice o.pl o.l.length o.cl) ∧ w.cell? ⟨b, off + j * 8 + 3, none⟩ = some (.int .u64 o.t.1) ∧ w.cell? ⟨b, off + j * 8 + 4, none⟩ = some (.int .u64 o.t.2.1) ∧ w.cell? ⟨b, off + j * 8 + 5, none⟩ = some (.int .u64 o.t.2.2) ∧ w.cell? ⟨b, off + j * 8 + 6, none⟩ = some (.slice o.pf o.f.length o.cf) ∧ w.cell? ⟨b, off + j * 8 + 7, none⟩ = some (.int .u64 o.ky) := by
  obtain ⟨b, off, c, hv, hb, hc⟩ := h.get hj
  exact ⟨b, off, c, hv, hb, hc 0 _ (by decide) rfl, hc 1 _ (by decide) rfl, hc 2 _ (by decide) rfl, hc 3 _ (by decide) rfl, hc 4 _ (by decide) rfl, hc 5 _ (by decide) rfl, hc 6 _ (by decide) rfl, hc 7 _ (by decide) rfl⟩
/-- A step's box. -/
abbrev bxc (xa xo : Int) (pl : Option Addr) (nl cl : Nat) (t : T3) (pf : Option Addr) (nf cf : Nat) (ky : Int) : Array Value := #[.int .i64 xa, .int .i64 xo, .slice pl nl cl, .int .u64 t.1, .int .u64 t.2.1, .int .u64 t.2.2, .slice pf nf cf, .int .u64 ky]
theorem box_at {w : World} {b nl cl nf cf : Nat} {xa xo ky : Int} {pl pf : Option Addr} {t : T3} (h : w.heap[b]? = some (.cells (bxc xa xo pl nl cl t pf nf cf ky) 58 (0, 0))) :
    w.cell? ⟨b, 0, none⟩ = some (.int .i64 xa) ∧ w.cell? ⟨b, 1, none⟩ = some (.int .i64 xo) ∧ w.cell? ⟨b, 2, none⟩ = some (.slice pl nl cl) ∧ w.cell? ⟨b, 3, none⟩ = some (.int .u64 t.1) ∧ w.cell? ⟨b, 4, none⟩ = some (.int .u64 t.2.1) ∧ w.cell? ⟨b, 5, none⟩ = some (.int .u64 t.2.2) ∧ w.cell? ⟨b, 6, none⟩ = some (.slice pf nf cf) ∧ w.cell? ⟨b, 7, none⟩ = some (.int .u64 ky) ∧ b < w.heap.size := by
  have h1 := (tk_store h).1
  exact ⟨h1 0, h1 1, h1 2, h1 3, h1 4, h1 5, h1 6, h1 7, tk_lt h⟩
/-- What holds behind i steps. -/
def Iv (w : World) (i N m nb : Nat) (sP sR sB : Value) (wr : World) : Prop := 1 ≤ m ∧ nb ≤ i ∧ ∃ tag hb rb Q V Wv D, Sc w wr tag m nb N hb rb Q V Wv D sP sR sB
/-- Pointers as elements. -/
def EQ : El Nat where
  k := 1
  enc x := [.pointer (some ⟨x, 0, none⟩)]
  len _ := rfl
  one x u hu := by
    simp at hu
    subst hu; rfl
/-- Pages as elements. -/
def EG : El ({v : Value // v.oneCell' = true} × {v : Value // v.oneCell' = true} × {v : Value // v.oneCell' = true}) where
  k := 3
  enc x := [x.1.1, x.2.1.1, x.2.2.1]
  len _ := rfl
  one x u hu := by
    simp at hu
    rcases hu with rfl | rfl | rfl
    · exact x.1.2
    · exact x.2.1.2
    · exact x.2.2.2
theorem made_one {w : World} {e : TypeId} (v : Value) : (w.alloc (.cells #[v] e)).ownsRow w.heap.size e 1 (.slice (some ⟨w.heap.size, 0, none⟩) 1 1) 1 [v] :=
  ⟨rfl, Or.inr ⟨w.heap.size, 1, #[v], rfl, Nat.le_refl _, heap_new' _ _, Nat.le_refl _, by unfold maxLen; decide, rfl, rfl⟩⟩
/-- As it begins. -/
theorem Iv.init {w w1 w2 w3 : World} {pb : Nat} (hG1 : Below w.heap.size w w1) (hP : Nw w1 w2 pb [])
    (h3 : w3 = ((w2.alloc (.cells #[.pointer (some ⟨pb, 0, none⟩)] 29)).alloc (.cells #[.slice none 0 0] 54)).alloc (.cells #[.pointer (some ⟨w2.heap.size + 1, 0, none⟩)] 52)) :
    Iv w 0 0 1 0 (.slice (some ⟨w2.heap.size, 0, none⟩) 1 1) (.slice (some ⟨w2.heap.size + 2, 0, none⟩) 1 1) (.slice none 0 0) w3 := by
  have hz1 := hG1.size
  have hz2 := hP.2.size
  obtain ⟨wa, hwa⟩ : ∃ wa, wa = w2.alloc (.cells #[.pointer (some ⟨pb, 0, none⟩)] 29) := ⟨_, rfl⟩
  obtain ⟨wb, hwb⟩ : ∃ wb, wb = wa.alloc (.cells #[.slice none 0 0] 54) := ⟨_, rfl⟩
  have sa : wa.heap.size = w2.heap.size + 1 := by rw [hwa]; simp
  have sb : wb.heap.size = w2.heap.size + 2 := by rw [hwb]; simp [sa]
  have ga : Gr w2 wa := by rw [hwa]; exact (Gr.refl _).alloc _
  have gb : Gr wa wb := by rw [hwb]; exact (Gr.refl _).alloc _
  have h3' : w3 = wb.alloc (.cells #[.pointer (some ⟨w2.heap.size + 1, 0, none⟩)] 52) := by rw [h3, hwb, hwa]
  have gc : Gr wb w3 := by rw [h3']; exact (Gr.refl _).alloc _
  have g23 : Gr w2 w3 := (ga.trans gb).trans gc
  have o1 : wa.ownsRow w2.heap.size 29 1 (.slice (some ⟨w2.heap.size, 0, none⟩) 1 1) 1 [.pointer (some ⟨pb, 0, none⟩)] := by rw [hwa]; exact made_one _
  have o2 : w3.ownsRow wb.heap.size 52 1 (.slice (some ⟨w2.heap.size + 2, 0, none⟩) 1 1) 1 [.pointer (some ⟨w2.heap.size + 1, 0, none⟩)] := by
    have := made_one (w := wb) (e := 52) (.pointer (some ⟨w2.heap.size + 1, 0, none⟩))
    rw [sb] at this ⊢
    rw [h3']
    exact this
  have hr : wb.heap[w2.heap.size + 1]? = some (.cells #[.slice none 0 0] 54 (0, 0)) := by
    have := heap_new' wa (.cells #[.slice none 0 0] 54)
    rw [sa] at this
    rw [hwb]
    exact this
  have hr3 := (gc.below.block _ (tk_lt hr)).trans hr
  have hpl := hP.1.lt
  refine ⟨Nat.le_refl _, Nat.le_refl _, fun k => if k < w1.heap.size then 0 else if k < w2.heap.size then 4 else if k = w2.heap.size then 1 else if k = w2.heap.size + 1 then 5 else if k = w2.heap.size + 2 then 2 else 0, fun _ => pb, fun _ => w2.heap.size + 1, fun _ => [], fun _ => .slice none 0 0, fun _ => .slice none 0 0, fun _ => [], fun i hi => ?_, ⟨owns_base (owns_below o1 (gb.trans gc).below) (Nat.zero_le _), fun g hg => ?_⟩, ⟨owns_base o2 (Nat.zero_le _), fun g hg => ?_⟩, ⟨World.ownsRow_nil _ _ _ _, fun g hg => by simp [Value.ownBlock] at hg⟩, fun p hp => absurd hp (Nat.not_lt_zero _), by omega, fun k hk => ?_, ?_⟩
  · have hi0 : i = 0 := by omega
    subst hi0
    refine ⟨?_, ?_, Nat.le_refl _⟩
    · have h := hP.1.mono (T := fun k => w1.heap.size ≤ k ∧ k < w2.heap.size) (fun k h1 h2 => ⟨h2, h1⟩)
      exact (h.below g23.below).mono (fun k _ e => by rw [if_neg (by omega), if_pos e.2])
    · rw [srt_nil]
      refine ⟨_, hr3, ?_, World.ownsRow_nil _ _ _ _, fun g hg => by simp [Value.ownBlock] at hg, fun _ => rfl⟩
      dsimp only
      rw [if_neg (by omega), if_neg (by omega), if_neg (by omega), if_pos rfl]
  · have e := own_eq hg
    rw [← e]
    dsimp only
    rw [if_neg (by omega), if_neg (by omega), if_pos rfl]
  · have e := own_eq hg
    rw [← e]
    dsimp only
    rw [if_neg (by omega), if_neg (by omega), if_neg (by omega), if_neg (by omega), if_pos rfl]
  · rw [if_pos (by omega)]
  · exact hG1.trans ((hP.2.trans (g23.below.mono hz2)).mono hz1)
end Go.Proofs.Ytghpekkncfckaaa.Ca
