import Derived.Test.YtaaobchodbnkpaaQuRCnt
import Derived.Test.YtaaobchodbnkpaaJ2
import Derived.Test.YtaaobchodbnkpaaQuSt
namespace Go.Proofs.Ytaaobchodbnkpaa.Qe
open Go.RowKit Go.Sort

/-- The queue's lists are the document's, place by place. -/
structure Rl (N : Nat) (Q : Nat → List Ms) (L : List Ms) : Prop where
  at_ : ∀ p : Nat, p < N → Q p = atp L (p : Int)
  pl : ∀ m ∈ L, Plc N m.at_
theorem wo_mem (p : Int) : ∀ (l : List Ms) (n : Nat) (m : Ms), m ∈ wo p n l → m ∈ l := by
  intro l
  induction l with
  | nil => intro n m h; simp [wo] at h
  | cons x l ih =>
    intro n m h
    rw [wo] at h
    split at h
    · exact List.mem_cons_of_mem _ (ih _ m h)
    · rcases List.mem_cons.1 h with rfl | h
      · exact List.mem_cons_self ..
      · exact List.mem_cons_of_mem _ (ih _ m h)
theorem wo_le (p : Int) : ∀ (l : List Ms) (n : Nat), (wo p n l).length ≤ l.length := by
  intro l
  induction l with
  | nil => intro n; simp [wo]
  | cons x l ih =>
    intro n
    rw [wo]
    split
    · have := ih (n - 1)
      rw [List.length_cons]
      omega
    · have := ih n
      rw [List.length_cons, List.length_cons]
      omega
section
variable {N : Nat} {Q : Nat → List Ms} {L : List Ms}
theorem Rl.nil (N : Nat) : Rl N (fun _ => []) [] := ⟨fun p _ => by simp, fun m h => by cases h⟩
theorem Rl.none (h : Rl N Q L) {p : Int} (hp : ¬ Plc N p) : atp L p = [] := by
  rw [List.filter_eq_nil_iff]
  intro m hm e
  simp only [decide_eq_true_eq] at e
  exact hp (by rw [← e]; exact h.pl m hm)
theorem Rl.get (h : Rl N Q L) {p : Int} (hp : Plc N p) : Q p.toNat = atp L p := by
  have hp' := hp
  unfold Plc at hp'
  have h1 := h.at_ p.toNat (by omega)
  rw [show ((p.toNat : Nat) : Int) = p by omega] at h1
  exact h1
theorem Rl.list (h : Rl N Q L) (p : Int) : lst N Q p = atp L p := by
  unfold lst
  by_cases hp : Plc N p
  · rw [if_pos hp, h.get hp]
  · rw [if_neg hp, h.none hp]
theorem Rl.rls (h : Rl N Q L) (p : Int) : rls N L p = lst N Q p := by
  unfold Qe.rls
  rw [h.list]
  by_cases hp : Plc N p
  · rw [if_pos hp]
  · rw [if_neg hp, h.none hp]
theorem Rl.put (h : Rl N Q L) (x : Ms) : Rl N (ptn N Q x) (rpt N L x) := by
  unfold ptn rpt
  by_cases hp : Plc N x.at_
  · rw [if_pos hp, if_pos hp]
    have hp' := hp
    unfold Plc at hp'
    refine ⟨fun p hpn => ?_, fun m hm => ?_⟩
    · by_cases e : p = x.at_.toNat
      · subst e
        rw [upd_self, h.get hp, show ((x.at_.toNat : Nat) : Int) = x.at_ by omega]
        simp [atp]
      · rw [upd_ne _ _ e, h.at_ p hpn]
        have : ¬ x.at_ = (p : Int) := fun e2 => e (by omega)
        simp [atp, this]
    · rcases List.mem_append.1 hm with h1 | h1
      · exact h.pl m h1
      · rw [List.mem_singleton.1 h1]; exact hp
  · rw [if_neg hp, if_neg hp]; exact h
theorem Rl.cut (h : Rl N Q L) {p : Int} (hp : Plc N p) (n : Nat) : Rl N (upd Q p.toNat ((Q p.toNat).drop n)) (wo p n L) := by
  have hp' := hp
  unfold Plc at hp'
  refine ⟨fun q hq => ?_, fun m hm => h.pl m (wo_mem p L n m hm)⟩
  by_cases e : q = p.toNat
  · subst e
    rw [upd_self, h.get hp, show ((p.toNat : Nat) : Int) = p by omega, wo_at]
  · rw [upd_ne _ _ e, h.at_ q hq, wo_ne p (by omega)]
theorem Rl.take (h : Rl N Q L) (p : Int) : tk N Q p = rtk N L p ∧ Rl N (tkn N Q p) (rtn N L p) := by
  unfold tk rtk tkn rtn
  by_cases hp : Plc N p
  · rw [if_pos hp, if_pos hp, if_pos hp, if_pos hp, h.get hp]
    refine ⟨rfl, ?_⟩
    have h1 := h.cut hp 1
    rw [h.get hp] at h1
    cases hl : atp L p with
    | nil =>
      rw [hl] at h1
      simp only [List.drop_nil] at h1
      simp only [List.tail_nil]
      refine ⟨fun q hq => ?_, h.pl⟩
      by_cases e : q = p.toNat
      · subst e
        have hp' := hp
        unfold Plc at hp'
        rw [upd_self, show ((p.toNat : Nat) : Int) = p by omega, hl]
      · rw [upd_ne _ _ e, h.at_ q hq]
    | cons x l =>
      rw [hl] at h1
      simpa using h1
  · rw [if_neg hp, if_neg hp, if_neg hp, if_neg hp]
    exact ⟨rfl, h⟩
theorem Rl.drain (h : Rl N Q L) (p : Int) : Rl N (drn N Q p) (rdn N L p) := by
  unfold drn rdn
  by_cases hp : Plc N p
  · rw [if_pos hp, if_pos hp]
    have h1 := h.cut hp (atp L p).length
    rw [h.get hp, List.drop_length] at h1
    exact h1
  · rw [if_neg hp, if_neg hp]; exact h
theorem rpt_le (N : Nat) (L : List Ms) (x : Ms) : (rpt N L x).length ≤ L.length + 1 := by unfold rpt; split <;> simp
theorem rtn_le (N : Nat) (L : List Ms) (p : Int) : (rtn N L p).length ≤ L.length := by
  unfold rtn
  split
  · split
    · exact wo_le _ _ _
    · exact Nat.le_refl _
  · exact Nat.le_refl _
theorem rdn_le (N : Nat) (L : List Ms) (p : Int) : (rdn N L p).length ≤ L.length := by
  unfold rdn
  split
  · exact wo_le _ _ _
  · exact Nat.le_refl _
theorem cts_congr {Q Q' : Nat → List Ms} : ∀ n, (∀ p, p < n → Q p = Q' p) → ctsTo Q n = ctsTo Q' n := by
  intro n
  induction n with
  | zero => intro _; rfl
  | succ n ih =>
    intro h
    show ctsTo Q n ++ cat _ _ = ctsTo Q' n ++ cat _ _
    rw [ih (fun p hp => h p (by omega)), h n (by omega)]
theorem Rl.cts (h : Rl N Q L) : ctsTo Q N = ctsTo (fun p : Nat => atp L (p : Int)) N := cts_congr N h.at_
theorem Rl.tot (h : Rl N Q L) : tot N Q = L.length := by
  rw [tot_congr (Q' := qs L) (fun p hp => h.at_ p hp), tot_qs]
  unfold nv
  rw [List.filter_eq_self.2 (fun m hm => decide_eq_true (h.pl m hm))]
end
/-- A queue, the document's, whose blocks bear the mark j. -/
def Pt (w : World) (tag : Nat → Nat) (j qb N K : Nat) (Q : Nat → List Ms) : Prop := Pq w (fun k => tag k = j) qb N K Q
def Rq (w : World) (tag : Nat → Nat) (j rb N : Nat) (L : List Ms) : Prop := ∃ v, Rd w (fun k => tag k = j) rb N v L
/-- How a call may turn marks and memory: blocks of A alone are turned. -/
structure Nx (A : Nat → Prop) (tag tag' : Nat → Nat) (w w' : World) : Prop where
  kp : Kp (fun k => A (tag k)) w w'
  old : ∀ k, k < w.heap.size → tag' k = tag k
section
variable {w w' w2 : World} {tag tag' tag2 : Nat → Nat} {A : Nat → Prop} {i j qb rb N K : Nat} {Q : Nat → List Ms} {L : List Ms}
theorem Nx.refl (A : Nat → Prop) (tag : Nat → Nat) (w : World) : Nx A tag tag w w := ⟨Kp.refl _ _, fun _ _ => rfl⟩
theorem Nx.trans (h : Nx A tag tag' w w') (h2 : Nx A tag' tag2 w' w2) : Nx A tag tag2 w w2 :=
  ⟨h.kp.trans h2.kp (fun k hk h3 => by rw [h.old k hk] at h3; exact h3), fun k hk => (h2.old k (Nat.lt_of_lt_of_le hk h.kp.size)).trans (h.old k hk)⟩
theorem Nx.mono {B : Nat → Prop} (h : Nx A tag tag' w w') (hAB : ∀ k, A k → B k) : Nx B tag tag' w w' := ⟨h.kp.mono (fun _ hk => hAB _ hk), h.old⟩
theorem Nx.below (A : Nat → Prop) (tag : Nat → Nat) (j : Nat) (hB : Below w.heap.size w w') : Nx A tag (tg tag w j) w w' := ⟨Kp.of_below hB, fun _ hk => tg_old hk⟩
theorem Nx.one (hK : Kp (fun k => tag k = j) w w') (hA : A j) : Nx A tag (tg tag w j) w w' := ⟨hK.mono (fun k hk => by rw [hk]; exact hA), fun _ hk => tg_old hk⟩
theorem Nx.same (A : Nat → Prop) (tag : Nat → Nat) (hB : Below w.heap.size w w') : Nx A tag tag w w' := ⟨Kp.of_below hB, fun _ _ => rfl⟩
theorem Pt.nx (h : Pt w tag i qb N K Q) (hn : Nx A tag tag' w w') (hi : ¬ A i) : Pt w' tag' i qb N K Q := by
  refine (Pq.kp (Pq.old h) hn.kp (fun k _ h1 h2 => hi (by rw [← h1.1]; exact h2))).mono (fun k _ h => ?_) (Nat.le_refl _)
  rw [hn.old k h.2]; exact h.1
theorem Rd.old {S : Nat → Prop} {v : Value} (h : Rd w S rb N v L) : Rd w (fun k => S k ∧ k < w.heap.size) rb N v L := ⟨h.blk, h.own, ⟨h.sb, h.lt⟩, fun g hg => ⟨h.sv g hg, (h.own.lt g hg).2⟩⟩
theorem Rq.nx (h : Rq w tag i rb N L) (hn : Nx A tag tag' w w') (hi : ¬ A i) : Rq w' tag' i rb N L := by
  obtain ⟨v, h⟩ := h
  refine ⟨v, ((h.old).kp hn.kp (fun k _ h1 h2 => hi (by rw [← h1.1]; exact h2))).mono (fun k _ h => ?_)⟩
  rw [hn.old k h.2]; exact h.1
theorem Pt.of {K' : Nat} {Q' : Nat → List Ms} (h : Pq w' (Qe.nx (fun k => tag k = j) w w') qb N K' Q') : Pt w' (tg tag w j) j qb N K' Q' := by
  refine Pq.mono h (fun k hk hs => ?_) (Nat.le_refl _)
  rcases hs with hs | hs
  · by_cases hlt : k < w.heap.size
    · rw [tg_old hlt]; exact hs
    · exact tg_new (Nat.le_of_not_lt hlt)
  · exact tg_new hs.1
theorem Rq.of {v : Value} {L' : List Ms} (h : Rd w' (Qe.nx (fun k => tag k = j) w w') rb N v L') : Rq w' (tg tag w j) j rb N L' := by
  refine ⟨v, h.mono (fun k hk hs => ?_)⟩
  rcases hs with hs | hs
  · by_cases hlt : k < w.heap.size
    · rw [tg_old hlt]; exact hs
    · exact tg_new (Nat.le_of_not_lt hlt)
  · exact tg_new hs.1
/-- A queue and the document's beside one another. -/
structure Pr (w : World) (tag : Nat → Nat) (a b qb rb N K : Nat) (Q : Nat → List Ms) (L : List Ms) : Prop where
  p : Pt w tag a qb N K Q
  r : Rq w tag b rb N L
  rel : Rl N Q L
  le : L.length ≤ K
variable {a b : Nat}
theorem Pr.nx (h : Pr w tag a b qb rb N K Q L) (hn : Nx A tag tag' w w') (ha : ¬ A a) (hb : ¬ A b) : Pr w' tag' a b qb rb N K Q L := ⟨h.p.nx hn ha, h.r.nx hn hb, h.rel, h.le⟩
theorem Pr.mono {K' : Nat} (h : Pr w tag a b qb rb N K Q L) (hK : K ≤ K') : Pr w tag a b qb rb N K' Q L := ⟨Pq.mono h.p (fun _ _ h => h) hK, h.r, h.rel, Nat.le_trans h.le hK⟩
theorem Pr.below (h : Pr w tag a b qb rb N K Q L) (hB : Below w.heap.size w w') (j : Nat) : Pr w' (tg tag w j) a b qb rb N K Q L := h.nx (Nx.below (fun _ => False) tag j hB) (fun h => h) (fun h => h)
theorem Pr.same (h : Pr w tag a b qb rb N K Q L) (hB : Below w.heap.size w w') : Pr w' tag a b qb rb N K Q L := h.nx (Nx.same (fun _ => False) tag hB) (fun h => h) (fun h => h)
/-- What a call on both leaves. -/
def Af (w : World) (tag : Nat → Nat) (a b qb rb N K : Nat) (w' : World) : Prop := ∃ tag' Q' L', Pr w' tag' a b qb rb N K Q' L' ∧ Nx (fun k => k = a ∨ k = b) tag tag' w w'
/-- Put, Take at the queue; then at the document's. -/
theorem Pr.putP (h : Pr w tag a b qb rb N K Q L) (x : Ms) (hK : (2 * K + 1) * 48 ≤ 140737488355328) : Calls Try.prog 8 #[.pointer (some ⟨qb, 0, none⟩), mv x] w fun e w' => e = .returned (.int .i64 (pe N x.at_ : Nat)) ∧ Hid (Pt w' (tg tag w a) a qb N (K + 1) (ptn N Q x) ∧ Nx (fun k => k = a) tag (tg tag w a) w w') :=
  (put_any x w h.p (by omega)).mono fun _ _ ⟨he, hR⟩ => ⟨he, Pt.of hR.out.1, Nx.one hR.out.2 rfl⟩
theorem Pr.takeP (h : Pr w tag a b qb rb N K Q L) (p : Int) (hK : (2 * K + 1) * 48 ≤ 140737488355328) : Calls Try.prog 9 #[.pointer (some ⟨qb, 0, none⟩), .int .i64 p] w fun e w' => e = .returned (tkv (tk N Q p)) ∧ Hid (Pt w' (tg tag w a) a qb N K (tkn N Q p) ∧ Nx (fun k => k = a) tag (tg tag w a) w w') :=
  (take_any p w h.p (by omega)).mono fun _ _ ⟨he, hR⟩ => ⟨he, Pt.of hR.out.1, Nx.one hR.out.2 rfl⟩
theorem Pr.putR {tagP : Nat → Nat} {wP : World} (h : Pr w tag a b qb rb N K Q L) (hab : a ≠ b) (x : Ms) (hK : (2 * K + 1) * 48 ≤ 140737488355328) (hP : Pt wP tagP a qb N (K + 1) (ptn N Q x)) (hn : Nx (fun k => k = a) tag tagP w wP) : Calls Try.prog 30 #[.pointer (some ⟨rb, 0, none⟩), mv x] wP fun e w' => e = .returned (.int .i64 (pe N x.at_ : Nat)) ∧ Hid (Af w tag a b qb rb N (K + 1) w') := by
  obtain ⟨v, h1⟩ := h.r.nx hn (fun e => hab e.symm)
  have hle := h.le
  refine (rdput_any x wP h1 (by omega)).mono ?_
  rintro e w' ⟨he, hR⟩
  obtain ⟨v', r1, r2⟩ := hR.out
  have hn2 : Nx (fun k => k = b) tagP (tg tagP wP b) wP w' := Nx.one r2 rfl
  exact ⟨he, ⟨_, _, _, ⟨hP.nx hn2 hab, Rq.of r1, h.rel.put x, by have := rpt_le N L x; omega⟩, (hn.mono (fun k e => Or.inl e)).trans (hn2.mono (fun k e => Or.inr e))⟩⟩
theorem Pr.takeR {tagP : Nat → Nat} {wP : World} (h : Pr w tag a b qb rb N K Q L) (hab : a ≠ b) (p : Int) (hK : (2 * K + 1) * 48 ≤ 140737488355328) (hP : Pt wP tagP a qb N K (tkn N Q p)) (hn : Nx (fun k => k = a) tag tagP w wP) : Calls Try.prog 31 #[.pointer (some ⟨rb, 0, none⟩), .int .i64 p] wP fun e w' => e = .returned (tkv (tk N Q p)) ∧ Hid (Af w tag a b qb rb N K w') := by
  obtain ⟨v, h1⟩ := h.r.nx hn (fun e => hab e.symm)
  have hle := h.le
  obtain ⟨t1, t2⟩ := h.rel.take p
  refine (rtake_doc p wP h1 (by omega)).mono ?_
  rintro e w' ⟨he, hR⟩
  obtain ⟨v', r1, r2⟩ := hR.out
  have hn2 : Nx (fun k => k = b) tagP (tg tagP wP b) wP w' := Nx.one r2 rfl
  exact ⟨by rw [t1]; exact he, ⟨_, _, _, ⟨hP.nx hn2 hab, Rq.of r1, t2, by have := rtn_le N L p; omega⟩, (hn.mono (fun k e => Or.inl e)).trans (hn2.mono (fun k e => Or.inr e))⟩⟩
end
end Go.Proofs.Ytaaobchodbnkpaa.Qe
