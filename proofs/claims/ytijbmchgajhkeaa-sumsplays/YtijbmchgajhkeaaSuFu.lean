import Derived.Test.YtijbmchgajhkeaaSuSrt
namespace Go.Proofs.Ytijbmchgajhkeaa
open Go.RowKit Go.Sort Go.Maps Go.Shelf
open Tt (Tl)

theorem Tt.Tl.mono {w : World} {tb b g n m : Nat} {f : Ku → Int} (h : Tl w tb b g n f) (hm : n ≤ m) : Tl w tb b g m f := ⟨h.blk, h.ta.mono hm, h.bd⟩
/-- A Sums: its block, the map of sums (the numbers f of the keys ks), the map of tallies (T), each tally's map (B) and its counts (g). -/
structure Fu (w : World) (S : Nat → Prop) (N sb mb kb : Nat) (f : Sx → Int) (ks : Sx → Prop) (T : Tm → Option Nat) (B : Tm → Nat) (g : Tm → Ku → Int) : Prop where
  blk : w.heap[sb]? = some (.cells #[.map (some mb), .map (some kb)] 67 (0, 0))
  ib : S sb
  im : S mb
  ik : S kb
  ne : mb ≠ kb
  mw : Mw ZX 30 w mb N f ks
  mp : Mp ZT w kb N T
  each : ∀ t q, T t = some q → Tl w q (B t) 42 N (g t)
  ok : ∀ t q, T t = some q → S q ∧ S (B t) ∧ B t ≠ mb ∧ B t ≠ kb
  inj : ∀ t u q r, T t = some q → T u = some r → B t = B u → t = u
section
variable {w w' : World} {S S' : Nat → Prop} {N M sb mb kb : Nat} {f f' : Sx → Int} {ks ks' : Sx → Prop} {T T' : Tm → Option Nat} {B : Tm → Nat} {g : Tm → Ku → Int}
theorem Fu.lt (h : Fu w S N sb mb kb f ks T B g) : sb < w.heap.size := (Array.getElem?_eq_some_iff.1 h.blk).1
theorem Fu.c0 (h : Fu w S N sb mb kb f ks T B g) : w.cell? ⟨sb, 0, none⟩ = some (.map (some mb)) := by simp [World.cell?, h.blk]
theorem Fu.c1 (h : Fu w S N sb mb kb f ks T B g) : w.cell? ⟨sb, 1, none⟩ = some (.map (some kb)) := by simp [World.cell?, h.blk]
theorem Fu.nm (h : Fu w S N sb mb kb f ks T B g) : sb ≠ mb := fun e => h.mw.not_cells (e ▸ h.blk)
theorem Fu.nk (h : Fu w S N sb mb kb f ks T B g) : sb ≠ kb := fun e => h.mp.not_cells (e ▸ h.blk)
theorem Fu.kp (h : Fu w S N sb mb kb f ks T B g) (hk : Kp S' w w') (hd : ∀ k, S k → ¬ S' k) : Fu w' S N sb mb kb f ks T B g :=
  ⟨(hk.block sb h.lt (hd _ h.ib)).trans h.blk, h.ib, h.im, h.ik, h.ne, h.mw.kept (hk.block mb h.mw.lt (hd _ h.im)), h.mp.kept (hk.block kb h.mp.lt (hd _ h.ik)),
    fun t q hq => (h.each t q hq).kp hk (hd _ (h.ok t q hq).1) (hd _ (h.ok t q hq).2.1), h.ok, h.inj⟩
theorem Fu.below (h : Fu w S N sb mb kb f ks T B g) (hb : Below w.heap.size w w') : Fu w' S N sb mb kb f ks T B g := h.kp (S' := fun _ => False) (Kp.of_below hb) fun _ _ h => h
theorem Fu.cut (h : Fu w S N sb mb kb f ks T B g) : Fu w (fun k => S k ∧ k < w.heap.size) N sb mb kb f ks T B g :=
  ⟨h.blk, ⟨h.ib, h.lt⟩, ⟨h.im, h.mw.lt⟩, ⟨h.ik, h.mp.lt⟩, h.ne, h.mw, h.mp, h.each, fun t q hq => ⟨⟨(h.ok t q hq).1, (h.each t q hq).lt⟩, ⟨(h.ok t q hq).2.1, (h.each t q hq).ta.lt⟩, (h.ok t q hq).2.2⟩, h.inj⟩
theorem Fu.wide (h : Fu w S N sb mb kb f ks T B g) (hS : ∀ k, S k → S' k) : Fu w S' N sb mb kb f ks T B g :=
  ⟨h.blk, hS _ h.ib, hS _ h.im, hS _ h.ik, h.ne, h.mw, h.mp, h.each, fun t q hq => ⟨hS _ (h.ok t q hq).1, hS _ (h.ok t q hq).2.1, (h.ok t q hq).2.2⟩, h.inj⟩
theorem Fu.mono (h : Fu w S N sb mb kb f ks T B g) (hm : N ≤ M) : Fu w S M sb mb kb f ks T B g :=
  ⟨h.blk, h.ib, h.im, h.ik, h.ne, h.mw.mono hm, h.mp.mono hm, fun t q hq => (h.each t q hq).mono hm, h.ok, h.inj⟩
theorem Fu.re (h : Fu w S N sb mb kb f ks T B g) {g' : Tm → Ku → Int} (hf : ∀ s, f s = f' s) (hk : ∀ s, ks s ↔ ks' s) (hg : ∀ t q, T t = some q → ∀ k, g t k = g' t k) : Fu w S N sb mb kb f' ks' T B g' :=
  ⟨h.blk, h.ib, h.im, h.ik, h.ne, h.mw.re hf hk, h.mp, fun t q hq => by rw [← show g t = g' t from funext (hg t q hq)]; exact h.each t q hq, h.ok, h.inj⟩
/-- A tally's block is none of the maps. -/
theorem tl_ne {q b o n : Nat} {c : Ku → Int} (h : Tl w q b o n c) {k : Nat} {es : Array MapEntry} {cl : Nat} (hk : w.heap[k]? = some (.map es cl)) : q ≠ k := fun e => by
  have := h.blk
  rw [e, hk] at this
  cases this
theorem Mw.blk {P : Program} {k e : TypeId} {K : Type} {Z : KK P k K} {w : World} {b n : Nat} {f : K → Int} {ks : K → Prop} (h : Mw Z e w b n f ks) : ∃ es cl, w.heap[b]? = some (.map es cl) := by obtain ⟨D, ⟨es, clock, h1, _⟩, _⟩ := h; exact ⟨es, clock, h1⟩
theorem Mp.blk {P : Program} {k : TypeId} {K : Type} {Z : KK P k K} {w : World} {b n : Nat} {f : K → Option Nat} (h : Mp Z w b n f) : ∃ es cl, w.heap[b]? = some (.map es cl) := by obtain ⟨D, ⟨es, clock, h1, _⟩, _⟩ := h; exact ⟨es, clock, h1⟩
theorem Ta.blk {P : Program} {k e : TypeId} {K : Type} {Z : KK P k K} {w : World} {b n : Nat} {f : K → Int} (h : Ta Z e w b n f) : ∃ es cl, w.heap[b]? = some (.map es cl) := by obtain ⟨D, ⟨es, clock, h1, _⟩, _⟩ := h; exact ⟨es, clock, h1⟩
/-- The map of sums is another. -/
theorem Fu.setS (h : Fu w S N sb mb kb f ks T B g) (hk : Kp (fun k => k = mb) w w') (hM : Mw ZX 30 w' mb N f' ks') : Fu w' S N sb mb kb f' ks' T B g := by
  obtain ⟨es, cl, hb⟩ := h.mw.blk
  exact ⟨(hk.block sb h.lt h.nm).trans h.blk, h.ib, h.im, h.ik, h.ne, hM, h.mp.kept (hk.block kb h.mp.lt (Ne.symm h.ne)),
    fun t q hq => (h.each t q hq).kp hk (tl_ne (h.each t q hq) hb) (h.ok t q hq).2.2.1, h.ok, h.inj⟩
/-- A time goes out of the map of tallies. -/
theorem Fu.dropK (h : Fu w S N sb mb kb f ks T B g) (hk : Kp (fun k => k = kb) w w') (hM : Mp ZT w' kb N T') (hT : ∀ t q, T' t = some q → T t = some q) : Fu w' S N sb mb kb f ks T' B g := by
  obtain ⟨es, cl, hb⟩ := h.mp.blk
  exact ⟨(hk.block sb h.lt h.nk).trans h.blk, h.ib, h.im, h.ik, h.ne, h.mw.kept (hk.block mb h.mw.lt h.ne), hM,
    fun t q hq => (h.each t q (hT t q hq)).kp hk (tl_ne (h.each t q (hT t q hq)) hb) (h.ok t q (hT t q hq)).2.2.2, fun t q hq => h.ok t q (hT t q hq), fun t u q r h1 h2 => h.inj t u q r (hT t q h1) (hT u r h2)⟩
/-- A time comes into it, with a tally of its own. -/
theorem Fu.putK (h : Fu w S N sb mb kb f ks T B g) (hk : Kp (fun k => k = kb) w w') {x : Tm} {q b : Nat} (hM : Mp ZT w' kb N (updP T x (some q))) (ht : Tl w q b 42 N (g x)) (hq : S q) (hb : S b) (h1 : b ≠ mb) (h2 : b ≠ kb) (h3 : ∀ t r, T t = some r → B t ≠ b) : Fu w' S N sb mb kb f ks (updP T x (some q)) (fun t => if t = x then b else B t) g := by
  obtain ⟨es, cl, hbk⟩ := h.mp.blk
  refine ⟨(hk.block sb h.lt h.nk).trans h.blk, h.ib, h.im, h.ik, h.ne, h.mw.kept (hk.block mb h.mw.lt h.ne), hM, fun t r hr => ?_, fun t r hr => ?_, fun t u r s hr hs e => ?_⟩
  · by_cases e : t = x
    · subst e
      rw [updP_same] at hr
      cases hr
      rw [if_pos rfl]
      exact ht.kp hk (tl_ne ht hbk) h2
    · rw [updP_other _ _ e] at hr
      rw [if_neg e]
      exact (h.each t r hr).kp hk (tl_ne (h.each t r hr) hbk) (h.ok t r hr).2.2.2
  · by_cases e : t = x
    · subst e
      rw [updP_same] at hr
      cases hr
      rw [if_pos rfl]
      exact ⟨hq, hb, h1, h2⟩
    · rw [updP_other _ _ e] at hr
      rw [if_neg e]
      exact h.ok t r hr
  · by_cases e1 : t = x <;> by_cases e2 : u = x
    · rw [e1, e2]
    · rw [updP_other _ _ e2] at hs
      rw [if_pos e1, if_neg e2] at e
      exact absurd e.symm (h3 u s hs)
    · rw [updP_other _ _ e1] at hr
      rw [if_neg e1, if_pos e2] at e
      exact absurd e (h3 t r hr)
    · rw [updP_other _ _ e1] at hr
      rw [updP_other _ _ e2] at hs
      rw [if_neg e1, if_neg e2] at e
      exact h.inj t u r s hr hs e
/-- A tally's counts are others. -/
theorem Fu.setB (h : Fu w S N sb mb kb f ks T B g) {x : Tm} {q : Nat} (hx : T x = some q) (hk : Kp (fun k => k = B x) w w') {c : Ku → Int} (ht : Tl w' q (B x) 42 N c) : Fu w' S N sb mb kb f ks T B (fun t => if t = x then c else g t) := by
  obtain ⟨es, cl, hbk⟩ := (h.each x q hx).ta.blk
  have hn : sb ≠ B x := fun e => by
    have := h.blk
    rw [e, hbk] at this
    cases this
  refine ⟨(hk.block sb h.lt hn).trans h.blk, h.ib, h.im, h.ik, h.ne, h.mw.kept (hk.block mb h.mw.lt (Ne.symm (h.ok x q hx).2.2.1)), h.mp.kept (hk.block kb h.mp.lt (Ne.symm (h.ok x q hx).2.2.2)), fun t r hr => ?_, h.ok, h.inj⟩
  by_cases e : t = x
  · subst e
    rw [hx] at hr
    cases hr
    simp only [if_true]
    exact ht
  · simp only [if_neg e]
    exact (h.each t r hr).kp hk (tl_ne (h.each t r hr) hbk) (fun e2 => e (h.inj t x r q hr hx e2))
end
/-- One without a record: no map of sums; the map of tallies may be there. -/
def Em (w : World) (S : Nat → Prop) (N sb : Nat) : Prop := ∃ o, w.heap[sb]? = some (.cells #[.map none, .map o] 67 (0, 0)) ∧ S sb ∧ ∀ kb, o = some kb → S kb ∧ Mp ZT w kb N (fun _ => none)
def gA (A : List Ct) (t : Tm) (k : Ku) : Int := if Has A (t, k) then 1 else 0
/-- A Sums that holds the records A. -/
def Su (w : World) (S : Nat → Prop) (N sb : Nat) (A : List Ct) : Prop := (A = [] ∧ Em w S N sb) ∨ ∃ mb kb T B, Fu w S N sb mb kb (fun s => (sm A s).1) (Has A) T B (gA A) ∧ ∀ t, (T t).isSome = true ↔ Hld A t
section
variable {w w' : World} {S S' : Nat → Prop} {N M sb : Nat} {A : List Ct}
theorem Em.kp (h : Em w S N sb) (hk : Kp S' w w') (hd : ∀ k, S k → ¬ S' k) : Em w' S N sb := by
  obtain ⟨o, h1, h2, h3⟩ := h
  exact ⟨o, (hk.block sb (Array.getElem?_eq_some_iff.1 h1).1 (hd _ h2)).trans h1, h2, fun kb e => ⟨(h3 kb e).1, (h3 kb e).2.kept (hk.block kb (h3 kb e).2.lt (hd _ (h3 kb e).1))⟩⟩
theorem Su.kp (h : Su w S N sb A) (hk : Kp S' w w') (hd : ∀ k, S k → ¬ S' k) : Su w' S N sb A := by
  rcases h with ⟨h1, h2⟩ | ⟨mb, kb, T, B, h1, h2⟩
  · exact .inl ⟨h1, h2.kp hk hd⟩
  · exact .inr ⟨mb, kb, T, B, h1.kp hk hd, h2⟩
theorem Su.below (h : Su w S N sb A) (hb : Below w.heap.size w w') : Su w' S N sb A := h.kp (S' := fun _ => False) (Kp.of_below hb) fun _ _ h => h
theorem Su.cut (h : Su w S N sb A) : Su w (fun k => S k ∧ k < w.heap.size) N sb A := by
  rcases h with ⟨h1, o, h2, h3, h4⟩ | ⟨mb, kb, T, B, h1, h2⟩
  · exact .inl ⟨h1, o, h2, ⟨h3, (Array.getElem?_eq_some_iff.1 h2).1⟩, fun kb e => ⟨⟨(h4 kb e).1, (h4 kb e).2.lt⟩, (h4 kb e).2⟩⟩
  · exact .inr ⟨mb, kb, T, B, h1.cut, h2⟩
theorem Su.wide (h : Su w S N sb A) (hS : ∀ k, S k → S' k) : Su w S' N sb A := by
  rcases h with ⟨h1, o, h2, h3, h4⟩ | ⟨mb, kb, T, B, h1, h2⟩
  · exact .inl ⟨h1, o, h2, hS _ h3, fun kb e => ⟨hS _ (h4 kb e).1, (h4 kb e).2⟩⟩
  · exact .inr ⟨mb, kb, T, B, h1.wide hS, h2⟩
theorem Su.mono (h : Su w S N sb A) (hm : N ≤ M) : Su w S M sb A := by
  rcases h with ⟨h1, o, h2, h3, h4⟩ | ⟨mb, kb, T, B, h1, h2⟩
  · exact .inl ⟨h1, o, h2, h3, fun kb e => ⟨(h4 kb e).1, (h4 kb e).2.mono hm⟩⟩
  · exact .inr ⟨mb, kb, T, B, h1.mono hm, h2⟩
theorem Su.lt (h : Su w S N sb A) : sb < w.heap.size := by
  rcases h with ⟨h1, o, h2, h3, h4⟩ | ⟨mb, kb, T, B, h1, h2⟩
  · exact (Array.getElem?_eq_some_iff.1 h2).1
  · exact h1.lt
theorem Su.in (h : Su w S N sb A) : S sb := by
  rcases h with ⟨h1, o, h2, h3, h4⟩ | ⟨mb, kb, T, B, h1, h2⟩
  · exact h3
  · exact h1.ib
end
/-- The blocks of S, and the new ones. -/
def nw (S : Nat → Prop) (w : World) (k : Nat) : Prop := (S k ∧ k < w.heap.size) ∨ w.heap.size ≤ k
attribute [local go_sem ↓] Go.wp_at_zero Go.wp_at_succ
theorem zeroP (w : World) : (zeroValue 64).run Try.prog w = .ok (.pointer none) w := by kernel_rfl
theorem zeroU (w : World) : (zeroValue 30).run Try.prog w = .ok (.int .u64 0) w := by kernel_rfl
theorem snew_any (w : World) : Calls Try.prog 18 #[] w fun e w' => e = .returned (.pointer (some ⟨w.heap.size, 0, none⟩)) ∧ Su w' (fun k => w.heap.size ≤ k) 0 w.heap.size [] ∧ Gr w w' := by
  go_enter Try.func18, Try.ntmps18
  go_wp2
  go_ret
  exact ⟨rfl, .inl ⟨rfl, none, heap_new' _ _, Nat.le_refl _, fun _ e => by cases e⟩, (Gr.refl _).alloc _⟩
end Go.Proofs.Ytijbmchgajhkeaa
