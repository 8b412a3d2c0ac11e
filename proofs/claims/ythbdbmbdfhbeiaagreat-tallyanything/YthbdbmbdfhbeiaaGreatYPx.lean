import Derived.Test.YthbdbmbdfhbeiaaGreatYKeyP
import Derived.Test.YthbdbmbdfhbeiaaGreatYRefPU
import Derived.Test.YthbdbmbdfhbeiaaGreatLSortQ
namespace Go.Proofs.YthbdbmbdfhbeiaaGreat.Pp
open Go.RowKit Go.Sort Go.Maps

/-- A pair as the document's key. -/
def kr (p : Pr) : Rk := (tx p, p.1.1)
theorem bts2_data (a b : Int) : (bts [a, b]).data = #[UInt8.ofNat a.toNat, UInt8.ofNat b.toNat] := rfl
theorem u8_bd {n : Int} (h : (Lit.int .u8 n).wf = true) : 0 ≤ n ∧ n ≤ 255 := by
  simpa [Lit.wf, IntKind.min, IntKind.max, IntKind.signed, IntKind.bits] using h
theorem u8_inj {a b : Int} (ha : 0 ≤ a ∧ a ≤ 255) (hb : 0 ≤ b ∧ b ≤ 255) (h : UInt8.ofNat a.toNat = UInt8.ofNat b.toNat) : a = b := by
  have h1 := congrArg UInt8.toNat h
  simp only [UInt8.toNat_ofNat'] at h1
  omega
theorem kr_inj {p q : Pr} (h : kr p = kr q) : p = q := by
  obtain ⟨⟨a, b, c⟩, h1, h2, h3⟩ := p
  obtain ⟨⟨a', b', c'⟩, h1', h2', h3'⟩ := q
  have e1 := congrArg (fun k : Rk => k.1.1.data) h
  have e2 := congrArg (fun k : Rk => k.2) h
  simp only [kr, tx, bts2_data] at e1 e2
  have e3 : UInt8.ofNat b.toNat = UInt8.ofNat b'.toNat ∧ UInt8.ofNat c.toNat = UInt8.ofNat c'.toNat := by simpa using e1
  have eb := u8_inj (u8_bd h2) (u8_bd h2') e3.1
  have ec := u8_inj (u8_bd h3) (u8_bd h3') e3.2
  subst eb ec e2
  rfl
theorem lt_cfp (x y : Pr) : ltOf cfp x y = ltk 0 (kr x) (kr y) := rfl
theorem totP (x y : Pr) (h1 : ltOf cfp x y = false) (h2 : ltOf cfp y x = false) : x = y := by
  rw [lt_cfp] at h1 h2
  exact kr_inj ((ltk_swo 0 (Or.inl rfl)).2.2 _ _ h1 h2)
theorem swoP : SWO (ltOf cfp) := swo_of (fun x => by rw [lt_cfp]; exact (ltk_swo 0 (Or.inl rfl)).1 _) (fun x y z h1 h2 => by rw [lt_cfp] at *; exact (ltk_swo 0 (Or.inl rfl)).2.1 _ _ _ h1 h2) totP

/-- The counts of pairs are those of the document. -/
structure Rel (f : Pr → Int) (N : List Rk) (C : List Int) : Prop where
  eq : ∀ p, f p = rget N C (kr p)
  sub : ∀ y ∈ N, ∃ p, y = kr p
theorem pre_list {R : List Rk} (h : ∀ y ∈ R, ∃ p, y = kr p) : ∃ R' : List Pr, R = R'.map kr := by
  induction R with
  | nil => exact ⟨[], rfl⟩
  | cons y R ih =>
    obtain ⟨p, hp⟩ := h y List.mem_cons_self
    obtain ⟨R', hR⟩ := ih fun z hz => h z (List.mem_cons_of_mem _ hz)
    exact ⟨p :: R', by rw [List.map_cons, ← hp, ← hR]⟩
theorem keys_rel {f : Pr → Int} {N : List Rk} {C : List Int} (hr : Rel f N C) (hl : C.length = N.length) (hn : N.Nodup) {ks : List Pr} (hs : Sup f ks) :
    rkeys 0 N C N.length = (Q.srtBy cfp ks).map kr := by
  have hsrt := srt_rkeys 0 (Or.inl rfl) hl hn N.length (Nat.le_refl _)
  have hmem := fun y => mem_rk (kind := 0) hl hn y
  generalize rkeys 0 N C N.length = R at *
  obtain ⟨R', rfl⟩ := pre_list (R := R) fun y hy => hr.sub y (Classical.byContradiction fun hm => (hmem y).1 hy (rget_not hl hm))
  rw [List.pairwise_map] at hsrt
  have hp : R'.Pairwise fun x y => ltOf cfp x y = true := hsrt
  have hnd : R'.Nodup := hp.imp fun {a b} hab e => by
    subst e
    rw [swoP.irrefl] at hab
    cases hab
  have hperm : ks.Perm R' := by
    refine (List.perm_ext_iff_of_nodup hs.1 hnd).2 fun x => ?_
    rw [hs.2 x, hr.eq x, ← hmem (kr x), List.mem_map]
    constructor
    · rintro ⟨y, hy, e⟩
      rw [← kr_inj e]; exact hy
    · intro h; exact ⟨_, h, rfl⟩
  congr 1
  rw [Q.srtBy_of_perm swoP totP hperm]
  symm
  refine List.Perm.eq_of_pairwise (le := fun x y => (!(ltOf cfp) y x) = true) (fun x y _ _ h1 h2 => ?_) (Q.srtBy_sorted swoP R') (hp.imp fun {a b} hab => ?_) (Q.srtBy_perm cfp R')
  · simp only [Bool.not_eq_true'] at h1 h2
    exact totP x y h2 h1
  · cases hq : ltOf cfp b a with
    | false => rfl
    | true => have := swoP.trans _ _ _ hab hq; rw [swoP.irrefl] at this; cases this
/-- Behind an Add on both. -/
theorem Rel.add {f : Pr → Int} {N : List Rk} {C : List Int} (hr : Rel f N C) (hl : C.length = N.length) (hn : N.Nodup) (p : Pr) (v : Int) : Rel (upd f p (f p + v)) (rN N (kr p)) (rC N C (kr p) v) := by
  refine ⟨fun q => ?_, fun y hy => ?_⟩
  · rw [rget_add hl hn]
    by_cases e : q = p
    · subst e
      rw [upd_same, if_pos rfl, hr.eq]
    · rw [upd_other _ _ e, if_neg (fun h => e (kr_inj h)), hr.eq]
  · rcases rN_sub hy with h | h
    · exact hr.sub y h
    · exact ⟨p, h⟩
end Go.Proofs.YthbdbmbdfhbeiaaGreat.Pp
