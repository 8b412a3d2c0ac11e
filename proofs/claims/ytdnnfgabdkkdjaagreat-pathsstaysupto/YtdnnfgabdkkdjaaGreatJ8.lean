import Derived.Test.YtdnnfgabdkkdjaaGreatJ7
namespace Go.Proofs.YtdnnfgabdkkdjaaGreat.Lf
open Go.RowKit Go.Sort
abbrev Tm := Pc.Tm
abbrev fA : Nat := 46
abbrev fT : Nat := 67
abbrev fW : Nat := 92
def tg (tag : Nat → Nat) (w : World) (j : Nat) : Nat → Nat := fun k => if k < w.heap.size then tag k else j
theorem tg_old {tag : Nat → Nat} {w : World} {j k : Nat} (h : k < w.heap.size) : tg tag w j k = tag k := by unfold tg; rw [if_pos h]
theorem tg_new {tag : Nat → Nat} {w : World} {j k : Nat} (h : w.heap.size ≤ k) : tg tag w j k = j := by unfold tg; rw [if_neg (by omega)]
structure Nx (j : Nat) (tag tag' : Nat → Nat) (w w' : World) : Prop where
 kp : Kp (fun k => tag k = j) w w'
 old : ∀ k, k < w.heap.size → tag' k = tag k
def EP : El (Option Nat) where
 k := 1
 enc c := [.pointer (c.map (fun b => ⟨b, 0, none⟩))]
 len _ := rfl
 one x u hu := by
  simp at hu
  subst hu
  rfl
def Cm (w : World) (tag : Nat → Nat) (j cb : Nat) (l : List Tm) : Prop := ∃ v, Pc.Cn.Ch w cb fA fT v l ∧ tag cb = j ∧ ∀ k, v.ownBlock = some k → tag k = j
def Hm (w : World) (tag : Nat → Nat) (j hb : Nat) (L : List Hf.It) (np : Nat) : Prop := ∃ v, Hf.Hq w hb fW v Hf.kf L np ∧ tag hb = j ∧ ∀ k, v.ownBlock = some k → tag k = j
section
variable {w w' : World} {tag tag' : Nat → Nat} {i j cb hb np : Nat} {l : List Tm} {L : List Hf.It}
theorem Nx.below (j : Nat) (tag : Nat → Nat) (hB : Below w.heap.size w w') : Nx j tag tag w w' := ⟨Kp.of_below hB, fun _ _ => rfl⟩
theorem Nx.one (hK : Kp (fun k => tag k = j) w w') : Nx j tag (tg tag w j) w w' := ⟨hK, fun _ hk => tg_old hk⟩
theorem Cm.nx (h : Cm w tag i cb l) (hn : Nx j tag tag' w w') (hij : i ≠ j) : Cm w' tag' i cb l := by
 obtain ⟨v, h1, h2, h3⟩ := h
 exact ⟨v, h1.kp hn.kp (fun e => hij (h2.symm.trans e)) (fun k hk e => hij ((h3 k hk).symm.trans e)), (hn.old cb h1.lt).trans h2, fun k hk => (hn.old k (h1.row k hk)).trans (h3 k hk)⟩
theorem Cm.below (h : Cm w tag i cb l) (hB : Below w.heap.size w w') : Cm w' tag i cb l := h.nx (Nx.below (i + 1) tag hB) (by omega)
theorem Hm.nx (h : Hm w tag i hb L np) (hn : Nx j tag tag' w w') (hij : i ≠ j) : Hm w' tag' i hb L np := by
 obtain ⟨v, h1, h2, h3⟩ := h
 exact ⟨v, h1.kp hn.kp (fun e => hij (h2.symm.trans e)) (fun k hk e => hij ((h3 k hk).symm.trans e)), (hn.old hb h1.h.lt).trans h2, fun k hk => (hn.old k (h1.h.row k hk)).trans (h3 k hk)⟩
theorem Hm.below (h : Hm w tag i hb L np) (hB : Below w.heap.size w w') : Hm w' tag i hb L np := h.nx (Nx.below (i + 1) tag hB) (by omega)
theorem Cm.insert (x : Tm) (h : Cm w tag j cb l) (hl : (l.length + 1) * 24 ≤ 140737488355328) :
    Calls Tryz.prog 48 #[.pointer (some ⟨cb, 0, none⟩), Pc.tv x] w fun e w' => e = .returned (.bool (!ccov Pc.bel l x)) ∧ Cm w' (tg tag w j) j cb (cins Pc.bel Pc.tol l x) ∧ Nx j tag (tg tag w j) w w' := by
 obtain ⟨v, h1, h2, h3⟩ := h
 refine (Pc.Cn.insert_any x w h1 hl Pc.ahead_ok Pc.told_ok).mono ?_
 rintro e w' ⟨v', rfl, q1, q2⟩
 refine ⟨rfl, ⟨v', q1, (tg_old h1.lt).trans h2, fun k hk => ?_⟩, Nx.one (q2.1.mono (fun k hk => ?_))⟩
 ·rcases q2.2 k hk with a | a
  ·exact (tg_old (h1.row k a)).trans (h3 k a)
  ·exact tg_new a
 ·rcases hk with rfl | a
  ·exact h2
  ·exact h3 k a
theorem Cm.covers (x : Tm) (h : Cm w tag j cb l) (hl : l.length * 24 ≤ 140737488355328) :
    Calls Tryz.prog 68 #[.pointer (some ⟨cb, 0, none⟩), Pc.tv x] w fun e w' => e = .returned (.bool (ccov Pc.bel l x)) ∧ Gr w w' := by
 obtain ⟨v, h1, _⟩ := h
 exact Pc.Cn.covers_any x w h1 hl Pc.ahead_ok
theorem Cm.len (h : Cm w tag j cb l) :
    Calls Tryz.prog 95 #[.pointer (some ⟨cb, 0, none⟩)] w fun e w' => e = .returned (.int .i64 (l.length : Nat)) ∧ w' = w := by
 obtain ⟨v, h1, _⟩ := h
 exact Pc.Cn.len_any w h1
theorem Hm.push (x : Hf.Th) (h : Hm w tag j hb L np) (hl : (L.length + 1) * 40 ≤ 140737488355328) (hnp : np + 1 < 18446744073709551616) :
    Calls Tryz.prog 93 #[.pointer (some ⟨hb, 0, none⟩), Hf.tv x] w fun e w' => ∃ L', e = .returned (.tuple #[]) ∧ Hm w' (tg tag w j) j hb L' (np + 1) ∧ L'.Perm (L ++ [(x, np)]) ∧ Nx j tag (tg tag w j) w w' := by
 obtain ⟨v, h1, h2, h3⟩ := h
 refine (Hf.pushq_any x w h1 hl hnp Hf.wait_ok).mono ?_
 rintro e w' ⟨v', L', rfl, q1, q2, q3⟩
 refine ⟨L', rfl, ⟨v', q1, (tg_old h1.h.lt).trans h2, fun k hk => ?_⟩, q2, Nx.one (q3.1.mono (fun k hk => ?_))⟩
 ·rcases q3.2 k hk with a | a
  ·exact (tg_old (h1.h.row k a)).trans (h3 k a)
  ·exact tg_new a
 ·rcases hk with rfl | a
  ·exact h2
  ·exact h3 k a
theorem Hm.pop {t : Hf.It} (h : Hm w tag j hb L np) (ht : L[0]? = some t) (hl : L.length ≤ 140737488355328) :
    Calls Tryz.prog 94 #[.pointer (some ⟨hb, 0, none⟩)] w fun e w' => ∃ L', e = .returned (Hf.ans t.1 true) ∧ Hm w' (tg tag w j) j hb L' np ∧ (t :: L').Perm L ∧ (∀ x ∈ L', Hf.kf t.1 < Hf.kf x.1 ∨ (Hf.kf t.1 = Hf.kf x.1 ∧ t.2 < x.2)) ∧ Nx j tag (tg tag w j) w w' := by
 obtain ⟨v, h1, h2, h3⟩ := h
 refine (Hf.popq_any w h1 ht hl Hf.wait_ok).mono ?_
 rintro e w' ⟨v', L', rfl, q1, q2, q4, q3⟩
 refine ⟨L', rfl, ⟨v', q1, (tg_old h1.h.lt).trans h2, fun k hk => ?_⟩, q2, q4, Nx.one (q3.1.mono (fun k hk => ?_))⟩
 ·rcases q3.2 k hk with a | a
  ·exact (tg_old (h1.h.row k a)).trans (h3 k a)
  ·exact tg_new a
 ·rcases hk with rfl | a
  ·exact h2
  ·exact h3 k a
theorem Hm.pop0 (h : Hm w tag j hb [] np) : Calls Tryz.prog 94 #[.pointer (some ⟨hb, 0, none⟩)] w fun e w' => e = .returned (Hf.ans Hf.zt false) ∧ Below w.heap.size w w' := by
 obtain ⟨v, h1, _⟩ := h
 exact Hf.pop_none w h1.h
theorem hnew (w : World) (tag : Nat → Nat) (j : Nat) : Calls Tryz.prog 91 #[Hf.fv fW] w fun e w' => ∃ hb, e = .returned (.pointer (some ⟨hb, 0, none⟩)) ∧ w.heap.size ≤ hb ∧ Hm w' (tg tag w j) j hb [] 0 ∧ Gr w w' := by
 refine (Hf.newq_any fW Hf.kf w).mono ?_
 rintro e w' ⟨hb, rfl, h1, h2, h3⟩
 exact ⟨hb, rfl, h1, ⟨_, h2, tg_new h1, fun k hk => by simp [Value.ownBlock] at hk⟩, h3⟩
end
structure Lf (w0 : World) (tag : Nat → Nat) (hb g n : Nat) (cs : List Nat) (rows : Nat → List Tm) (L : List Hf.It) (np : Nat) (w : World) : Prop where
 bl : Below w0.heap.size w0 w
 nw : ∀ k, k < w0.heap.size → tag k = 0
 len : cs.length = n
 lr : Ls EP w (.slice (some ⟨g, 0, none⟩) n n) (cs.map some)
 lt : tag g = 2
 hm : Hm w tag 1 hb L np
 ch : ∀ i c, cs[i]? = some c → Cm w tag (i + 3) c (rows i)
section
variable {w0 w w' : World} {tag tag' : Nat → Nat} {hb g n np np' : Nat} {cs : List Nat} {rows : Nat → List Tm} {L L' : List Hf.It}
theorem Lf.up {j : Nat} (h : Lf w0 tag hb g n cs rows L np w) (hn : Nx j tag tag' w w') (h0 : j ≠ 0) : Below w0.heap.size w0 w' ∧ ∀ k, k < w0.heap.size → tag' k = 0 := by
 refine ⟨h.bl.trans (hn.kp.below h.bl.size (fun k hk => ?_)), fun k hk => (hn.old k (Nat.lt_of_lt_of_le hk h.bl.size)).trans (h.nw k hk)⟩
 refine Nat.le_of_not_lt (fun e => h0 ?_)
 rw [← hk]
 exact h.nw k e
theorem Lf.row {j : Nat} (h : Lf w0 tag hb g n cs rows L np w) (hn : Nx j tag tag' w w') (h2 : j ≠ 2) : Ls EP w' (.slice (some ⟨g, 0, none⟩) n n) (cs.map some) ∧ tag' g = 2 := by
 refine ⟨hn.kp.ls h.lr (fun k hk e => h2 ?_), (hn.old g (h.lr.blk g rfl)).trans h.lt⟩
 have hk : g = k := by simpa [Value.ownBlock] using hk
 rw [← e, ← hk]
 exact h.lt
theorem Lf.below (h : Lf w0 tag hb g n cs rows L np w) (hB : Below w.heap.size w w') : Lf w0 tag hb g n cs rows L np w' :=
 ⟨h.bl.trans (hB.mono h.bl.size), h.nw, h.len, h.lr.below hB, h.lt, h.hm.below hB, fun i c hc => (h.ch i c hc).below hB⟩
theorem Lf.heap (h : Lf w0 tag hb g n cs rows L np w) (hm : Hm w' tag' 1 hb L' np') (hn : Nx 1 tag tag' w w') : Lf w0 tag' hb g n cs rows L' np' w' := by
 obtain ⟨u1, u2⟩ := h.up hn (by decide)
 obtain ⟨r1, r2⟩ := h.row hn (by decide)
 exact ⟨u1, u2, h.len, r1, r2, hm, fun i c hc => (h.ch i c hc).nx hn (by omega)⟩
theorem Lf.chain {q c : Nat} {l : List Tm} (h : Lf w0 tag hb g n cs rows L np w) (hc : cs[q]? = some c) (hm : Cm w' tag' (q + 3) c l) (hn : Nx (q + 3) tag tag' w w') : Lf w0 tag' hb g n cs (fun i => if i = q then l else rows i) L np w' := by
 obtain ⟨u1, u2⟩ := h.up hn (by omega)
 obtain ⟨r1, r2⟩ := h.row hn (by omega)
 refine ⟨u1, u2, h.len, r1, r2, h.hm.nx hn (by omega), fun i d hd => ?_⟩
 by_cases e : i = q
 ·subst e
  rw [hc] at hd
  cases hd
  rw [if_pos rfl]
  exact hm
 ·rw [if_neg e]
  exact (h.ch i d hd).nx hn (by omega)
end
end Go.Proofs.YtdnnfgabdkkdjaaGreat.Lf

namespace Go.Proofs.YtdnnfgabdkkdjaaGreat.Lf
open Go.RowKit Go.Sort Pt
def opn (L : List Hf.It) : List (Nat × Tri) := L.map (fun x => (x.1.1.toNat, x.1.2))
def Sts (ss : List (List Hf.Th)) (q q' : Nat) (b : Tri) : Prop := ∃ s, ss[q]? = some s ∧ ((q' : Int), b) ∈ s
theorem opn_perm {L M : List Hf.It} (h : L.Perm M) : ∀ x, x ∈ opn L ↔ x ∈ opn M := fun _ => (h.map _).mem_iff
theorem opn_append (L M : List Hf.It) : opn (L ++ M) = opn L ++ opn M := by simp [opn]
theorem opn_cons (t : Hf.It) (L : List Hf.It) : opn (t :: L) = (t.1.1.toNat, t.1.2) :: opn L := rfl
def Rg (n : Nat) (L : List Hf.It) : Prop := ∀ x ∈ L, ∃ q : Nat, q < n ∧ x.1.1 = (q : Int)
section
variable {ss : List (List Hf.Th)} {s : List Hf.Th} {p n q0 : Nat} {w : Tri} {rows : Nat → List Tri} {R L L' : List Hf.It}
theorem take_all {np : Nat} (h : Iv PX (Sts ss) p rows (opn L)) (hp : ((((q0 : Int), w), np) :: R).Perm L) (hf : ∀ q b, (q, b) ∈ opn L → ¬ PX.tld b w) (hc : ¬ Cov PX (rows q0) w) : ∃ o, Iv PX (Sts ss) p (put1 rows q0 w) o := by
 have h0 : ∀ x, x ∈ opn L ↔ x = (q0, w) ∨ x ∈ opn R := fun x => by
  rw [← opn_perm hp x, opn_cons]
  simp
 cases hs : ss[q0]? with
 | none =>
  refine ⟨opn R, h.take PX_ok ((h0 _).2 (Or.inl rfl)) hf (fun x hx => (h0 x).1 hx) (fun x hx => (h0 x).2 (Or.inr hx)) hc (fun _ hx => hx) (fun q c hx => Or.inl hx) (fun q b c hst _ => ?_)⟩
  obtain ⟨s', e, _⟩ := hst
  rw [hs] at e
  cases e
 | some s =>
  refine ⟨opn R ++ s.filterMap (fun x => (PX.thn w x.2).bind (fun c => if 0 ≤ x.1 then some (x.1.toNat, c) else none)), h.take PX_ok ((h0 _).2 (Or.inl rfl)) hf (fun x hx => (h0 x).1 hx) (fun x hx => (h0 x).2 (Or.inr hx)) hc (fun _ hx => List.mem_append.2 (Or.inl hx)) (fun q c hx => ?_) (fun q b c hst hb => Or.inr ?_)⟩
  ·rcases List.mem_append.1 hx with k | k
   ·exact Or.inl k
   ·obtain ⟨⟨a, b⟩, h1, h2⟩ := List.mem_filterMap.1 k
    obtain ⟨c', h3, h4⟩ := Option.bind_eq_some_iff.1 h2
    split at h4
    ·rename_i ha
     cases h4
     have ha : 0 ≤ a := ha
     exact Or.inr ⟨b, ⟨s, hs, by simpa [Int.toNat_of_nonneg ha] using h1⟩, h3⟩
    ·cases h4
  ·obtain ⟨s', e, hm⟩ := hst
   rw [hs] at e
   cases e
   refine List.mem_append.2 (Or.inr (List.mem_filterMap.2 ⟨_, hm, ?_⟩))
   rw [hb]
   simp
structure Inn (s : List Hf.Th) (n : Nat) (w : Tri) (rows' : Nat → List Tri) (R L : List Hf.It) (k : Nat) : Prop where
 sub : ∀ x ∈ opn R, x ∈ opn L
 new : ∀ q c, (q, c) ∈ opn L → (q, c) ∈ opn R ∨ ∃ b, ((q : Int), b) ∈ s ∧ PX.thn w b = some c
 don : ∀ (j q : Nat) (b c : Tri), j < k → s[j]? = some ((q : Int), b) → PX.thn w b = some c → Cov PX (rows' q) c ∨ (q, c) ∈ opn L
 rg : Rg n L
 cnt : L.length ≤ R.length + k
theorem Inn.init {rows' : Nat → List Tri} (hr : Rg n R) : Inn s n w rows' R R 0 := ⟨fun _ h => h, fun _ _ h => Or.inl h, fun _ _ _ _ h => absurd h (Nat.not_lt_zero _), hr, Nat.le_refl _⟩
theorem Inn.skip {rows' : Nat → List Tri} {k q : Nat} {b : Tri} (h : Inn s n w rows' R L k) (hs : s[k]? = some ((q : Int), b)) (hc : ∀ c, PX.thn w b = some c → Cov PX (rows' q) c) : Inn s n w rows' R L (k + 1) := by
 refine ⟨h.sub, h.new, fun j q' b' c hj hs' hb => ?_, h.rg, Nat.le_succ_of_le h.cnt⟩
 by_cases e : j = k
 ·subst e
  rw [hs] at hs'
  simp only [Option.some.injEq, Prod.mk.injEq, Int.natCast_inj] at hs'
  obtain ⟨rfl, rfl⟩ := hs'
  exact Or.inl (hc c hb)
 ·exact h.don j q' b' c (by omega) hs' hb
theorem Inn.push {rows' : Nat → List Tri} {k q np : Nat} {b c : Tri} (h : Inn s n w rows' R L k) (hs : s[k]? = some ((q : Int), b)) (hq : q < n) (hb : PX.thn w b = some c) (hp : L'.Perm (L ++ [(((q : Int), c), np)])) : Inn s n w rows' R L' (k + 1) := by
 have hm : ∀ x, x ∈ opn L' ↔ x ∈ opn L ∨ x = (q, c) := fun x => by
  rw [opn_perm hp x, opn_append]
  simp [opn]
 refine ⟨fun x hx => (hm x).2 (Or.inl (h.sub x hx)), fun q' c' hx => ?_, fun j q' b' c' hj hs' hb' => ?_, fun x hx => ?_, ?_⟩
 ·rcases (hm _).1 hx with a | a
  ·exact h.new q' c' a
  ·simp only [Prod.mk.injEq] at a
   obtain ⟨rfl, rfl⟩ := a
   exact Or.inr ⟨b, List.mem_of_getElem? hs, hb⟩
 ·by_cases e : j = k
  ·subst e
   rw [hs] at hs'
   simp only [Option.some.injEq, Prod.mk.injEq, Int.natCast_inj] at hs'
   obtain ⟨rfl, rfl⟩ := hs'
   rw [hb] at hb'
   cases hb'
   exact Or.inr ((hm _).2 (Or.inr rfl))
  ·exact (h.don j q' b' c' (by omega) hs' hb').imp (fun a => a) (fun a => (hm _).2 (Or.inl a))
 ·rcases List.mem_append.1 (hp.mem_iff.1 hx) with a | a
  ·exact h.rg x a
  ·simp only [List.mem_singleton] at a
   subst a
   exact ⟨q, hq, rfl⟩
 ·rw [hp.length_eq, List.length_append, List.length_singleton]
  have := h.cnt
  omega
theorem Inn.fin {np : Nat} (h : Iv PX (Sts ss) p rows (opn L)) (hp : ((((q0 : Int), w), np) :: R).Perm L) (hf : ∀ q b, (q, b) ∈ opn L → ¬ PX.tld b w) (hc : ¬ Cov PX (rows q0) w) (hs : ss[q0]? = some s) (hi : Inn s n w (put1 rows q0 w) R L' s.length) : Iv PX (Sts ss) p (put1 rows q0 w) (opn L') := by
 have h0 : ∀ x, x ∈ opn L ↔ x = (q0, w) ∨ x ∈ opn R := fun x => by
  rw [← opn_perm hp x, opn_cons]
  simp
 refine h.take PX_ok ((h0 _).2 (Or.inl rfl)) hf (fun x hx => (h0 x).1 hx) (fun x hx => (h0 x).2 (Or.inr hx)) hc hi.sub (fun q c hx => ?_) (fun q b c hst hb => ?_)
 ·exact (hi.new q c hx).imp (fun a => a) (fun ⟨b, h1, h2⟩ => ⟨b, ⟨s, hs, h1⟩, h2⟩)
 ·obtain ⟨s', e, hm⟩ := hst
  rw [hs] at e
  cases e
  obtain ⟨j, hj⟩ := List.mem_iff_getElem?.1 hm
  exact hi.don j q b c (List.getElem?_eq_some_iff.1 hj).1 hj hb
theorem first_out {t : Hf.It} (hp : (t :: R).Perm L) (hk : ∀ x ∈ R, Hf.kf t.1 < Hf.kf x.1 ∨ (Hf.kf t.1 = Hf.kf x.1 ∧ t.2 < x.2)) : ∀ q b, (q, b) ∈ opn L → ¬ PX.tld b t.1.2 := by
 intro q b hm ht
 rw [← opn_perm hp, opn_cons] at hm
 have key : ∀ x : Hf.It, PX.tld x.1.2 t.1.2 → Hf.kf x.1 < Hf.kf t.1 := fun x hx => (Hf.kf_lt x.1 t.1).2 ((Pc.tol_px _ _).2 hx)
 rcases List.mem_cons.1 hm with a | a
 ·simp only [Prod.mk.injEq] at a
  exact PX_ok.irr _ (a.2 ▸ ht)
 ·obtain ⟨x, h1, h2⟩ := List.mem_map.1 a
  simp only [Prod.mk.injEq] at h2
  have h3 := key x (by rw [h2.2]; exact ht)
  rcases hk x h1 with h4 | h4 <;> omega
end
end Go.Proofs.YtdnnfgabdkkdjaaGreat.Lf

namespace Go.Proofs.YtdnnfgabdkkdjaaGreat.Lf
open Go.RowKit Go.Sort Pt
def thv (a b : Tri) : Tri := (thn3 a b).getD PX.z
theorem thv_some {a b c : Tri} (h : thn3 a b = some c) : thv a b = c := by unfold thv; rw [h]; rfl
theorem thn3_no {a b : Tri} (h : ¬ (a.1.1 + b.1.1 < 18446744073709551616 ∧ a.1.2.1 + b.1.2.1 < 18446744073709551616 ∧ a.1.2.2 + b.1.2.2 < 18446744073709551616)) : thn3 a b = none := by
 unfold thn3
 rw [dif_neg h]
theorem pon_t (k : Nat) : pon true k = k := rfl
theorem thv_nat (a b : Tri) : ∃ x1 x2 x3 y1 y2 y3 : Nat, (a.1.1 = x1 ∧ a.1.2.1 = x2 ∧ a.1.2.2 = x3) ∧ (b.1.1 = y1 ∧ b.1.2.1 = y2 ∧ b.1.2.2 = y3) ∧ (x1 < 18446744073709551616 ∧ x2 < 18446744073709551616 ∧ x3 < 18446744073709551616) ∧ (y1 < 18446744073709551616 ∧ y2 < 18446744073709551616 ∧ y3 < 18446744073709551616) ∧
    pok x1 x2 x3 y1 y2 y3 = (thn3 a b).isSome ∧ ((pon (pok x1 x2 x3 y1 y2 y3) (x1 + y1) : Nat) : Int) = (thv a b).1.1 ∧ ((pon (pok x1 x2 x3 y1 y2 y3) (x2 + y2) : Nat) : Int) = (thv a b).1.2.1 ∧ ((pon (pok x1 x2 x3 y1 y2 y3) (x3 + y3) : Nat) : Int) = (thv a b).1.2.2 := by
 obtain ⟨⟨a1, a2⟩, ⟨a3, a4⟩, ⟨a5, a6⟩⟩ := tri_bd a
 obtain ⟨⟨b1, b2⟩, ⟨b3, b4⟩, ⟨b5, b6⟩⟩ := tri_bd b
 obtain ⟨x1, e1⟩ := Int.eq_ofNat_of_zero_le a1
 obtain ⟨x2, e2⟩ := Int.eq_ofNat_of_zero_le a3
 obtain ⟨x3, e3⟩ := Int.eq_ofNat_of_zero_le a5
 obtain ⟨y1, f1⟩ := Int.eq_ofNat_of_zero_le b1
 obtain ⟨y2, f2⟩ := Int.eq_ofNat_of_zero_le b3
 obtain ⟨y3, f3⟩ := Int.eq_ofNat_of_zero_le b5
 refine ⟨x1, x2, x3, y1, y2, y3, ⟨e1, e2, e3⟩, ⟨f1, f2, f3⟩, ⟨by omega, by omega, by omega⟩, ⟨by omega, by omega, by omega⟩, ?_⟩
 by_cases h : a.1.1 + b.1.1 < 18446744073709551616 ∧ a.1.2.1 + b.1.2.1 < 18446744073709551616 ∧ a.1.2.2 + b.1.2.2 < 18446744073709551616
 ·obtain ⟨c, hc⟩ := thn3_of h
  have hs := thn3_some hc
  have hp : pok x1 x2 x3 y1 y2 y3 = true := by
   unfold pok
   rw [decide_eq_true (by omega), decide_eq_true (by omega), decide_eq_true (by omega)]
   rfl
  rw [thv_some hc, hc, hp, pon_t, pon_t, pon_t, hs.1, hs.2.1, hs.2.2, e1, e2, e3, f1, f2, f3]
  exact ⟨rfl, by simp, by simp, by simp⟩
 ·have hc := thn3_no h
  have hp : pok x1 x2 x3 y1 y2 y3 = false := by
   cases k : pok x1 x2 x3 y1 y2 y3 with
   | false => rfl
   | true =>
    unfold pok at k
    rw [Bool.and_eq_true, Bool.and_eq_true, decide_eq_true_eq, decide_eq_true_eq, decide_eq_true_eq] at k
    exact absurd ⟨by omega, by omega, by omega⟩ h
  unfold thv
  rw [hc, hp]
  exact ⟨rfl, rfl, rfl, rfl⟩
theorem then_any (a b : Tri) (w : World) : Calls Tryz.prog 96 #[Pc.tv a, Pc.tv b] w fun e w' => e = .returned (.tuple #[Pc.tv (thv a b), .bool (thn3 a b).isSome]) ∧ Below w.heap.size w w' := by
 obtain ⟨x1, x2, x3, y1, y2, y3, ⟨e1, e2, e3⟩, ⟨f1, f2, f3⟩, ⟨g1, g2, g3⟩, ⟨h1, h2, h3⟩, k0, k1, k2, k3⟩ := thv_nat a b
 have h := Then_any x1 x2 x3 y1 y2 y3 w g1 g2 g3 h1 h2 h3
 rw [k1, k2, k3, k0] at h
 unfold Pc.tv
 rw [e1, e2, e3, f1, f2, f3]
 exact h
end Go.Proofs.YtdnnfgabdkkdjaaGreat.Lf

namespace Go.Proofs.YtdnnfgabdkkdjaaGreat.Lf
open Go.RowKit Go.Sort Pt
theorem fl_EP (l : List (Option Nat)) : fl EP l = l.map (fun c => Value.pointer (c.map (fun b => ⟨b, 0, none⟩))) := by
 induction l with
 | nil => rfl
 | cons a l ih => rw [fl_cons, ih]; rfl
theorem fl_EP_set (l : List (Option Nat)) (i : Nat) (c : Nat) : (fl EP l).set i (.pointer (some ⟨c, 0, none⟩)) = fl EP (l.set i (some c)) := by
 rw [fl_EP, fl_EP, List.map_set]
 rfl
theorem fill_set (cs : List Nat) (n c : Nat) (h : cs.length < n) : (cs.map some ++ List.replicate (n - cs.length) none).set cs.length (some c) = (cs ++ [c]).map some ++ List.replicate (n - (cs ++ [c]).length) none := by
 obtain ⟨m, rfl⟩ : ∃ m, n = cs.length + (m + 1) := ⟨n - cs.length - 1, by omega⟩
 rw [List.set_append_right _ _ (by simp), List.length_map, Nat.sub_self, show cs.length + (m + 1) - cs.length = m + 1 by omega, List.replicate_succ, List.set_cons_zero, List.length_append, List.length_singleton, show cs.length + (m + 1) - (cs.length + 1) = m by omega]
 simp
structure Fil (w0 : World) (tag : Nat → Nat) (g n : Nat) (cs : List Nat) (w : World) : Prop where
 bl : Below w0.heap.size w0 w
 nw : ∀ k, k < w0.heap.size → tag k = 0
 le : cs.length ≤ n
 ro : w.ownsRow 0 98 1 (.slice (some ⟨g, 0, none⟩) n n) n (fl EP (cs.map some ++ List.replicate (n - cs.length) none))
 lt : tag g = 2
 ch : ∀ i c, cs[i]? = some c → Cm w tag (i + 3) c []
section
variable {w0 w w' : World} {tag : Nat → Nat} {g n : Nat} {cs : List Nat}
theorem Fil.gl (h : Fil w0 tag g n cs w) : g < w.heap.size := (h.ro.lt g rfl).2
theorem Fil.cell (h : Fil w0 tag g n cs w) (hlt : cs.length < n) (hg : Gr w w') : w'.cell? ⟨g, cs.length, none⟩ = some (.pointer none) := by
 have hl : (cs.map some ++ List.replicate (n - cs.length) none).length = n := by simp; omega
 have hls : Ls EP w' (.slice (some ⟨g, 0, none⟩) n n) (cs.map some ++ List.replicate (n - cs.length) none) := owns_ls (E := EP) (by rw [hl]; exact owns_below h.ro hg.below)
 obtain ⟨b, off, c, e, hb, hc⟩ := hls.get (j := cs.length) (t := none) (by rw [List.getElem?_append_right (by simp), List.getElem?_replicate, if_pos (by simp; omega)])
 simp only [Value.slice.injEq, Option.some.injEq, Addr.mk.injEq, and_true] at e
 obtain ⟨⟨rfl, rfl⟩, -, -⟩ := e
 simpa [EP] using hc 0 _ (by decide) rfl
theorem Fil.step (h : Fil w0 tag g n cs w) (hlt : cs.length < n) (hC : Pc.Cn.Ch w' w.heap.size fA fT (.slice none 0 0) []) (hg : Gr w w') :
    Fil w0 (tg tag w (cs.length + 3)) g n (cs ++ [w.heap.size]) (w'.setCell ⟨g, cs.length, none⟩ (.pointer (some ⟨w.heap.size, 0, none⟩))) := by
 obtain ⟨o1, k1⟩ := Hf.owns_cell (q := cs.length) (.pointer (some ⟨w.heap.size, 0, none⟩)) (owns_below h.ro hg.below)
 rw [fl_EP_set, fill_set cs n _ hlt] at o1
 have hgt : tg tag w (cs.length + 3) g = 2 := (tg_old h.gl).trans h.lt
 have n1 : Nx 1 tag (tg tag w (cs.length + 3)) w w' := ⟨Kp.of_gr hg, fun _ hk => tg_old hk⟩
 have n2 : Nx 2 (tg tag w (cs.length + 3)) (tg tag w (cs.length + 3)) w' (w'.setCell ⟨g, cs.length, none⟩ (.pointer (some ⟨w.heap.size, 0, none⟩))) := ⟨k1.mono (fun k hk => by rw [hk]; exact hgt), fun _ _ => rfl⟩
 have hg0 : w0.heap.size ≤ g := Nat.le_of_not_lt (fun e => by have := h.nw g e; rw [h.lt] at this; cases this)
 refine ⟨(h.bl.trans (hg.below.mono h.bl.size)).trans (k1.below (Nat.le_trans h.bl.size hg.size) (fun k hk => by rw [hk]; exact hg0)), fun k hk => (tg_old (Nat.lt_of_lt_of_le hk h.bl.size)).trans (h.nw k hk), ?_, o1, hgt, fun i c hc => ?_⟩
 ·rw [List.length_append, List.length_singleton]
  omega
 ·rw [List.getElem?_append] at hc
  split at hc
  ·exact ((h.ch i c hc).nx n1 (by omega)).nx n2 (by omega)
  ·rename_i hi
   have e : i = cs.length := by
    rw [List.getElem?_eq_some_iff] at hc
    obtain ⟨h1, _⟩ := hc
    simp at h1
    omega
   subst e
   rw [Nat.sub_self] at hc
   cases hc
   exact Cm.nx ⟨_, hC, tg_new (Nat.le_refl _), fun k hk => by simp [Value.ownBlock] at hk⟩ n2 (by omega)
theorem Fil.done {hb np : Nat} {tag' : Nat → Nat} {L : List Hf.It} (h : Fil w0 tag g n cs w) (hn : cs.length = n) (hx : Nx 1 tag tag' w w') (hm : Hm w' tag' 1 hb L np) : Lf w0 tag' hb g n cs (fun _ => []) L np w' := by
 have hro := h.ro
 rw [hn, Nat.sub_self, List.replicate_zero, List.append_nil] at hro
 have hls : Ls EP w (.slice (some ⟨g, 0, none⟩) n n) (cs.map some) := owns_ls (E := EP) (by rw [List.length_map, hn]; exact hro)
 refine ⟨h.bl.trans (hx.kp.below h.bl.size (fun k hk => Nat.le_of_not_lt (fun e => by have := h.nw k e; rw [hk] at this; cases this))), fun k hk => (hx.old k (Nat.lt_of_lt_of_le hk h.bl.size)).trans (h.nw k hk), hn, hx.kp.ls hls (fun k hk e => ?_), (hx.old g h.gl).trans h.lt, hm, fun i c hc => (h.ch i c hc).nx hx (by omega)⟩
 have hk : g = k := by simpa [Value.ownBlock] using hk
 rw [← hk, h.lt] at e
 cases e
end
end Go.Proofs.YtdnnfgabdkkdjaaGreat.Lf
