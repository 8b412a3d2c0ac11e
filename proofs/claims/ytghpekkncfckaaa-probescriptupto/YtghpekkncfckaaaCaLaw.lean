import Derived.Test.YtghpekkncfckaaaCaSty
import Derived.Test.YtghpekkncfckaaaCaRef2
import Derived.Test.YtghpekkncfckaaaLStep2
import Derived.Test.YtghpekkncfckaaaLAppN
namespace Go.Proofs.Ytghpekkncfckaaa.Ca
open Go.RowKit Go.Sort
attribute [local go_sem ↓] Go.wp_at_zero Go.wp_at_succ
/-- A list that is read; an empty one may lie anywhere. -/
def Lw {α : Type} (E : El α) (w : World) (v : Value) (l : List α) : Prop := Ls E w v l ∨ (l = [] ∧ ∃ a c, v = .slice (some a) 0 c)
section
variable {α : Type} {E : El α} {w w' : World} {v : Value} {l : List α}
theorem Lw.below (h : Lw E w v l) (hb : Below w.heap.size w w') : Lw E w' v l := h.imp (fun h => h.below hb) id
theorem Lw.form (h : Lw E w v l) : ∃ p c, v = .slice p l.length c := by
  rcases h with h | ⟨rfl, p, c, rfl⟩
  · exact h.form
  · exact ⟨some p, c, rfl⟩
theorem Lw.ls (h : Lw E w v l) {i : Nat} {x : α} (hi : l[i]? = some x) : Ls E w v l := by
  rcases h with h | ⟨rfl, _⟩
  · exact h
  · simp at hi
theorem Lw.nil (h : Lw E w v ([] : List α)) : Lw E w' v ([] : List α) := by
  rcases h with (⟨_, rfl⟩ | ⟨b, off, c, rfl, _, _⟩) | ⟨_, p, c, rfl⟩
  · exact Or.inl (Ls.nil _)
  · exact Or.inr ⟨rfl, _, _, rfl⟩
  · exact Or.inr ⟨rfl, _, _, rfl⟩
theorem Lw.kp {S : Nat → Prop} (h : Lw E w v l) (hk : Kp S w w') (hS : ∀ k, v.ownBlock = some k → ¬ S k) : Lw E w' v l := h.imp (fun h => hk.ls h hS) id
end
section
variable {P : Program} {α : Type} (E : El α) {w : World} {ops : Array Oper} {rest : List Oper} {o : Oper} {a : Act} {Q : Exit → Act → World → Prop}
/-- 'append(own, l...)'; l may be an empty list that lies anywhere. -/
theorem wpAppW {e sT : TypeId} {z : Value} {bt : Nat} (hu : P.underlying sT = some (.slice e)) (hI : (P.info? e).map (fun i => (i.zero, i.size, i.bytes)) = some (some z, E.k, bt)) (hz : z.cells.size = E.k) (hk : 0 < E.k)
    (hgd : o.guard = none) (s x : Operand) (ho : o.op = .call { callee := .builtin .append, args := #[s, x], argTypes := #[sT, sT] })
    (base : Nat) (v : Value) (n : Nat) (xs : List Value) (hs : a.eval s = v) (hown : w.ownsRow base e E.k v n xs)
    (v1 : Value) (ts : List α) (hx : a.eval x = v1) (hv : Lw E w v1 ts) (hbig : (n + ts.length) * bt ≤ 140737488355328) (hmx : n + ts.length ≤ maxLen) (hbase : base ≤ w.heap.size)
    (h : ∀ v' w', w'.ownsRow base e E.k v' (n + ts.length) (xs ++ fl E ts) → w.grownBy w' v.ownBlock → wpList P ops Q rest (a.put o.dst v') w') : wpList P ops Q (o :: rest) a w := by
  rcases hv with hv | ⟨rfl, b, c, rfl⟩
  · exact wpAppL E hu hI hz hk hgd s x ho base v n xs hs hown v1 ts hx hv hbig hmx hbase h
  · obtain ⟨i0, hi, hz0, hz1, hz2⟩ := info_parts hI
    refine wpList_append_own _ hgd s x _ ho base e i0 _ E.k bt hu hi hz0 hz1 hz2 hz hk v n xs hs hown b 0 c [] hx (by simp) (fun j u hj => by simp at hj) (fun u hu => by cases hu) hmx hbig hbase ?_
    intro v' w' h1 h2 _
    exact h v' w' h1 h2
end
/-- 'append(own, l...)' as a step of a region that draws, with where the new row lies. -/
theorem step_appLN {P : Program} {α : Type} (E : El α) {e sT : TypeId} {z : Value} {bt : Nat} (hu : P.underlying sT = some (.slice e)) (hI : (P.info? e).map (fun i => (i.zero, i.size, i.bytes)) = some (some z, E.k, bt)) (hz : z.cells.size = E.k) (hk : 0 < E.k)
    {w : World} {ops : Array Oper} {o : Oper} {a : Act} {K : Act → World → Prop} {Q : Exit → Act → World → Prop} {X : Prop} (hgd : o.guard = none) (s x : Operand)
    (ho : o.op = .call { callee := .builtin .append, args := #[s, x], argTypes := #[sT, sT] })
    (base : Nat) (v0 : Value) (n : Nat) (xs : List Value) (hs : a.eval s = v0) (hown : w.ownsRow base e E.k v0 n xs) (hbase : base ≤ w.heap.size) (v1 : Value) (ts : List α) (hx : a.eval x = v1) (hv : Ls E w v1 ts) (hbig : (n + ts.length) * bt ≤ 140737488355328) (hmx : n + ts.length ≤ maxLen)
    (h : ∀ v' w', Hid (w'.ownsRow base e E.k v' (n + ts.length) (xs ++ fl E ts)) → Hid (w.grownBy w' v0.ownBlock) → Hid (∀ g, v'.ownBlock = some g → v0.ownBlock = some g ∨ w.heap.size ≤ g) → K (a.put o.dst v') w') :
    if Region.wanted o (yielded ops a.tmps) = true then Oper.wp P o a w K Q else X := by
  have hw : Region.wanted o (yielded ops a.tmps) = true := by simp [Region.wanted, hgd]
  rw [if_pos hw]
  obtain ⟨i0, hi, hz0, hz1, hz2⟩ := info_parts hI
  rcases hv with ⟨rfl, rfl⟩ | ⟨b, off, c, rfl, hb, ht⟩
  · have hrun := run_append_owned_none (P := P) (w := w) base sT o.type e i0 E.k hu hi v0 n xs hown
    unfold Oper.wp
    simp [execOp, ho, resolve, invoke, builtin, hs, hx, hrun, Result.andThen]
    exact h _ _ (show _ from by have h5 : w.ownsRow base e E.k v0 (n + ([] : List α).length) (xs ++ fl E []) := (by simpa [fl] using hown); exact h5) ⟨rfl, rfl, rfl, Nat.le_refl _, fun _ _ _ => rfl⟩ (fun g hg => Or.inl hg)
  · obtain ⟨v', w', hr, h2, h3, _, h5⟩ := run_append_own_at (P := P) w base sT o.type e i0 _ E.k bt hu hi hz0 hz1 hz2 hz hk v0 n xs hown ⟨b, off, none⟩ ts.length c (fl E ts) (fl_length E ts) (fun j u hj => by rw [addA]; exact ht j u hj) (fl_oneCell E ts) hmx hbig hbase
    unfold Oper.wp execOp
    simp only [ho, resolve, invoke, builtin, Sem.run_bind, Sem.run_pure, Result.andThen_ok, List.map_toArray, List.map_cons, List.map_nil, hs, hx, hr]
    refine h v' w' h2 h3 (fun g hg => ?_)
    rcases h5 with h5 | h5
    · exact Or.inl (by rw [← h5]; exact hg)
    · rw [h5] at hg
      cases hg
      exact Or.inr (Nat.le_refl _)
theorem sameW_eq {a b : Value} {l : List Ct} (w : World) (ha : Ls EC w a l) (hb : Lw EC w b l) (hl : l.length ≤ 5864062014806) : Calls Try.prog 11 #[a, b] w fun e w' => e = .returned (.bool true) ∧ Gr w w' := by
  rcases hb with hb | ⟨rfl, p, c, rfl⟩
  · exact same_eq w ha hb hl
  · obtain ⟨p1, c1, rfl⟩ := ha.form
    clear ha hl
    go_enter Try.func11, Try.ntmps11
    go_wp2_with fail
    go_loopw [5] (fun s5 wr => s5 = .int .i64 0 ∧ wr = w) (fun _ _ => 0)
    case atStart => exact ⟨rfl, rfl⟩
    case round =>
      obtain ⟨rfl, rfl⟩ := hrel
      go_wp2
      go_ret
      exact ⟨rfl, Gr.refl _⟩
/-- Marks: what is new bears j. -/
def tg (tag : Nat → Nat) (w : World) (j : Nat) : Nat → Nat := fun k => if k < w.heap.size then tag k else j
theorem tg_old {tag : Nat → Nat} {w : World} {j k : Nat} (h : k < w.heap.size) : tg tag w j k = tag k := if_pos h
theorem tg_new {tag : Nat → Nat} {w : World} {j k : Nat} (h : w.heap.size ≤ k) : tg tag w j k = j := if_neg (by omega)
/-- Only blocks whose mark is in A are turned; old marks stay. -/
structure Nx (A : Nat → Prop) (tag tag' : Nat → Nat) (w w' : World) : Prop where
  kp : Kp (fun k => A (tag k)) w w'
  old : ∀ k, k < w.heap.size → tag' k = tag k
section
variable {A : Nat → Prop} {tag tag' tag2 : Nat → Nat} {w w' w2 : World}
theorem Nx.refl (A : Nat → Prop) (tag : Nat → Nat) (w : World) : Nx A tag tag w w := ⟨Kp.refl _ _, fun _ _ => rfl⟩
theorem Nx.trans (h : Nx A tag tag' w w') (h2 : Nx A tag' tag2 w' w2) : Nx A tag tag2 w w2 :=
  ⟨h.kp.trans h2.kp (fun k hk hA => by rw [← h.old k hk]; exact hA), fun k hk => (h2.old k (Nat.lt_of_lt_of_le hk h.kp.size)).trans (h.old k hk)⟩
theorem Nx.mono {B : Nat → Prop} (h : Nx A tag tag' w w') (hAB : ∀ k, A k → B k) : Nx B tag tag' w w' := ⟨h.kp.mono (fun _ hk => hAB _ hk), h.old⟩
theorem Nx.below (A : Nat → Prop) (tag : Nat → Nat) (j : Nat) (hB : Below w.heap.size w w') : Nx A tag (tg tag w j) w w' := ⟨Kp.of_below hB, fun _ hk => tg_old hk⟩
theorem Nx.same (A : Nat → Prop) (tag : Nat → Nat) (hB : Below w.heap.size w w') : Nx A tag tag w w' := ⟨Kp.of_below hB, fun _ _ => rfl⟩
theorem Pb.nx {a pb : Nat} {l : List Ct} (h : Pb w (fun k => tag k = a) pb l) (hn : Nx A tag tag' w w') (ha : ¬ A a) : Pb w' (fun k => tag' k = a) pb l := by
  have h2 := h.mono (T := fun k => tag k = a ∧ tag' k = a) (fun k hk e => ⟨e, (hn.old k hk).trans e⟩)
  have h3 := h2.kp hn.kp (fun k e hA => ha (by rw [← e.1]; exact hA))
  exact h3.mono (fun k _ e => e.2)
theorem Rp.nx {b rb : Nat} {M : List Ct} (h : Rp w (fun k => tag k = b) rb M) (hn : Nx A tag tag' w w') (hb : ¬ A b) : Rp w' (fun k => tag' k = b) rb M := by
  have h2 := h.mono (S' := fun k => tag k = b ∧ tag' k = b) (fun k hk e => ⟨e, (hn.old k hk).trans e⟩)
  have h3 := h2.kp hn.kp (fun k e hA => hb (by rw [← e.1]; exact hA))
  exact h3.mono (fun k _ e => e.2)
/-- A row whose block bears the mark j. -/
def Ow (w : World) (tag : Nat → Nat) (j : Nat) (e : TypeId) (s : Nat) (v : Value) (n : Nat) (xs : List Value) : Prop := w.ownsRow 0 e s v n xs ∧ ∀ g, v.ownBlock = some g → tag g = j
theorem Ow.nx {j : Nat} {e : TypeId} {s n : Nat} {v : Value} {xs : List Value} (h : Ow w tag j e s v n xs) (hn : Nx A tag tag' w w') (hj : ¬ A j) : Ow w' tag' j e s v n xs :=
  ⟨owns_kp hn.kp h.1 (fun k hk hA => hj (by rw [← h.2 k hk]; exact hA)), fun g hg => (hn.old g (h.1.lt g hg).2).trans (h.2 g hg)⟩
theorem Ow.new {j : Nat} {e : TypeId} {s n : Nat} {v : Value} {xs : List Value} (h : w'.ownsRow w.heap.size e s v n xs) : Ow w' (tg tag w j) j e s v n xs :=
  ⟨owns_base h (Nat.zero_le _), fun g hg => tg_new (h.lt g hg).1⟩
end
theorem bd_law (x y : Nat) (h : (x + y + 1) * 40 ≤ 140737488355328) : (0 + y) * 40 ≤ 140737488355328 ∧ 0 + y ≤ maxLen ∧ (y + 1) * 40 ≤ 140737488355328 ∧ y + 1 ≤ maxLen ∧ (x + y) * 40 ≤ 140737488355328 ∧ y ≤ 5864062014806 ∧ y ≤ 3518437208882 := by
  have h2 : x + y + 1 ≤ 3518437208883 := Nat.le_trans ((Nat.le_div_iff_mul_le (by omega)).2 h) (by simp)
  have h3 : (x + y + 1) * 40 ≤ 140737488355328 := h
  clear h
  unfold maxLen
  refine ⟨?_, ?_, ?_, ?_, ?_, ?_, ?_⟩
  · exact Nat.le_trans (Nat.mul_le_mul_right 40 (show 0 + y ≤ x + y + 1 by omega)) h3
  · clear h3; omega
  · exact Nat.le_trans (Nat.mul_le_mul_right 40 (show y + 1 ≤ x + y + 1 by omega)) h3
  · clear h3; omega
  · exact Nat.le_trans (Nat.mul_le_mul_right 40 (show x + y ≤ x + y + 1 by omega)) h3
  · clear h3; omega
  · clear h3; omega
theorem take_snoc {l : List Ct} {i : Nat} {x : Ct} (h : l[i]? = some x) : l.take (i + 1) = l.take i ++ [x] := by
  rw [List.take_add_one, h]; rfl
set_option maxHeartbeats 16000000 in
set_option maxRecDepth 100000 in
theorem caughtBy_any {a b : Nat} {pb rb : Nat} {v : Value} {A l : List Ct} {tag : Nat → Nat} (w : World) (hab : a ≠ b) (ha0 : a ≠ 0) (hb0 : b ≠ 0) (hP : Pb w (fun k => tag k = a) pb A) (hR : Rp w (fun k => tag k = b) rb (srt A)) (hv : Lw EC w v l) (hvt : l ≠ [] → ∀ k, v.ownBlock = some k → tag k ≠ a ∧ tag k ≠ b) (hl : (A.length + l.length + 1) * 40 ≤ 140737488355328) :
    Calls Try.prog 20 #[.pointer (some ⟨pb, 0, none⟩), .pointer (some ⟨rb, 0, none⟩), v] w fun e w' => e = .returned (.bool true) ∧ Hid (∃ tag', Nx (fun k => k = a ∨ k = b) tag tag' w w' ∧ Pb w' (fun k => tag' k = a) pb (A ++ l) ∧ Rp w' (fun k => tag' k = b) rb (srt (A ++ l))) := by
  have hmx : Try.prog.follows .mixedOrders = true := by kernel_rfl
  obtain ⟨pv, cv0, rfl⟩ := hv.form
  have HV := hid hv
  have HVT := hid hvt
  have HP := hid hP
  have HR := hid hR
  have BD := hid (bd_law A.length l.length hl)
  have BD2 : Hid (∀ i, i < l.length → ((srt (A ++ l.take i)).length + 1) * 40 ≤ 140737488355328) := fun i hi => by
    rw [srt_len, List.length_append, List.length_take]
    exact Nat.le_trans (Nat.mul_le_mul_right 40 (Nat.add_le_add_right (Nat.add_le_add_left (Nat.min_le_right _ _) _) _)) hl
  have hnb : l.length ≤ 3518437208882 := BD.out.2.2.2.2.2.2
  have HC7 : Hid (∀ (W : World), Sem.run Try.prog (Op.equalIn 10000 36 (cv ⟨77, 0, 0, 77, 77⟩) (cv ⟨77, 0, 0, 77, 77⟩)) W = .ok true W) := fun W => by rw [run_eqC]; simp
  obtain ⟨n, hn⟩ : ∃ n, n = l.length := ⟨_, rfl⟩
  rw [← hn] at HV BD BD2 hnb HVT
  rw [← hn]
  have HN := hid hn
  clear hv hvt hP hR hl hn
  go_enter Try.func20, Try.ntmps20
  have HZ : Hid (Below w.heap.size w (w.alloc (.cells #[] 36))) := ((Gr.refl _).alloc _).below
  go_wp2_with (at_builtin; refine wpAppW EC Try.underlying22 infoC rfl (by decide) rfl _ _ rfl w.heap.size _ 0 [] rfl (World.ownsRow_made w #[] 0 (Nat.le_refl _) (Nat.zero_le _) rfl) _ l rfl (HV.out.below HZ.out) (by have := BD.out.1; rw [← HN.out]; exact this) (by have := BD.out.2.1; rw [← HN.out]; exact this) HZ.out.size ?_)
  intro v2 w2 ho2 hg2
  have HB2 : Hid (Below w.heap.size w w2) := HZ.out.trans ((Kp.grownBy (S := fun k => k = w.heap.size) hg2 (fun k hk => by simpa [Value.ownBlock] using hk.symm)).below HZ.out.size (fun k hk => by rw [hk]; exact Nat.le_refl _))
  have HO2 : Hid (w2.ownsRow w.heap.size 36 5 v2 n (fl EC l)) := owns_re ho2 (by first | (rw [HN.out]; done) | (rw [HN.out]; simp)) (by simp)
  clear ho2 hg2 HZ
  go_wp2_with fail
  refine (caught_any 77 77 77 w2).mono ?_
  rintro e w3 ⟨rfl, g3⟩
  have HB3 : Hid (Below w.heap.size w w3) := HB2.out.trans (g3.below.mono HB2.out.size)
  have HO3 := hid (owns_below HO2.out g3.below)
  clear g3 HB2 HO2
  go_wp2_with (at_builtin; refine wpApp1 EC Try.underlying22 infoC rfl (by decide) rfl _ _ rfl w.heap.size v2 n _ rfl HO3.out ⟨77, 0, 0, 77, 77⟩ (by first | rfl | (go_simp; done)) BD.out.2.2.1 BD.out.2.2.2.1 HB3.out.size _ rfl _ ?_)
  intro g cap w4 ho4 hg4 hn4
  have HB4 : Hid (Below w.heap.size w w4) := HB3.out.trans ((Kp.grownBy (S := fun k => w.heap.size ≤ k) hg4 (fun k hk => (HO3.out.lt k hk).1)).below HB3.out.size (fun _ h => h))
  obtain ⟨tag4, ht4⟩ : ∃ t, t = tg tag w 0 := ⟨_, rfl⟩
  have NX4 : Hid (Nx (fun k => k = a ∨ k = b) tag tag4 w w4) := by rw [ht4]; exact Nx.below _ tag 0 HB4.out
  have OF4 : Hid (Ow w4 tag4 0 36 5 (.slice (some ⟨g, 0, none⟩) (n + 1) cap) (n + 1) (fl EC (l ++ [⟨77, 0, 0, 77, 77⟩]))) := by
    rw [ht4]
    exact Ow.new (owns_re ho4 rfl (by rw [fl_append, fl_one]))
  have HCAP : Hid (n + 1 ≤ cap ∧ cap ≤ maxLen ∧ w.heap.size ≤ g) := ⟨(owns_cap ho4).1, (owns_cap ho4).2, (ho4.lt g rfl).1⟩
  have HP4 : Hid (Pb w4 (fun k => tag4 k = a) pb A) := by rw [ht4]; exact HP.out.nx (Nx.below (fun _ => False) tag 0 HB4.out) (fun h => h)
  have HR4 : Hid (Rp w4 (fun k => tag4 k = b) rb (srt A)) := by rw [ht4]; exact HR.out.nx (Nx.below (fun _ => False) tag 0 HB4.out) (fun h => h)
  clear ho4 hg4 hn4 HB3 HO3 HP HR ht4
  have hcap1 : n + 1 ≤ cap := HCAP.out.1
  have hcap2 : (n : Int) ≤ (cap : Int) := by omega
  have hc0 : ¬ cap = 0 := by omega
  have hcn : ¬ cap = n := by omega
  have hL4 : Ls EC w4 (.slice (some ⟨g, 0, none⟩) n cap) l := by
    have h := (owns_ls (E := EC) (ts := l ++ [(⟨77, 0, 0, 77, 77⟩ : Ct)]) (owns_re OF4.out.1 (by rw [List.length_append, ← HN.out]; rfl) rfl)).cut (k := n) (by rw [List.length_append, ← HN.out]; exact Nat.le_succ n) cap
    rw [List.take_append_of_le_length (by rw [← HN.out]; exact Nat.le_refl _), List.take_of_length_le (by rw [← HN.out]; exact Nat.le_refl _)] at h
    exact h
  have hc := catch_any w4 HP4.out hL4 (by rw [← HN.out]; exact BD.out.2.2.2.2.1)
  clear hL4
  go_wp2_with fail
  refine hc.mono ?_
  clear hc
  rintro e w5 ⟨rfl, H5⟩
  obtain ⟨tag5, ht5⟩ : ∃ t, t = tg tag4 w4 a := ⟨_, rfl⟩
  have N5 : Nx (fun k => k = a) tag4 tag5 w4 w5 := by rw [ht5]; exact ⟨H5.out.2, fun _ hk => tg_old hk⟩
  have HP5 : Hid (Pb w5 (fun k => tag5 k = a) pb (A ++ l)) := H5.out.1.mono fun k _ h => by
    rw [ht5]
    rcases Nat.lt_or_ge k w4.heap.size with hk | hk
    · rw [tg_old hk]
      exact h.elim id (fun h => absurd h (Nat.not_le.2 hk))
    · exact tg_new hk
  have HR5 := hid (HR4.out.nx N5 (fun e => hab e.symm))
  have OF5 := hid (OF4.out.nx N5 (fun e => ha0 e.symm))
  have NX5 : Hid (Nx (fun k => k = a ∨ k = b) tag tag5 w w5) := NX4.out.trans (N5.mono (fun _ e => Or.inl e))
  clear H5 N5 ht5 HP4 HR4 OF4 NX4
  have IV5 : Hid (∃ t, Nx (fun k => k = a ∨ k = b) tag t w w5 ∧ Pb w5 (fun k => t k = a) pb (A ++ l) ∧ Rp w5 (fun k => t k = b) rb (srt (A ++ l.take 0)) ∧ Ow w5 t 0 36 5 (.slice (some ⟨g, 0, none⟩) (n + 1) cap) (n + 1) (fl EC (l ++ [⟨77, 0, 0, 77, 77⟩]))) := ⟨tag5, NX5.out, HP5.out, by simpa using HR5.out, OF5.out⟩
  clear NX5 HP5 HR5 OF5
  go_wp2_with fail
  go_loopw [8] (fun s8 wr => ∃ i : Nat, i ≤ n ∧ s8 = .int .i64 (i : Nat) ∧ Hid (∃ t, Nx (fun k => k = a ∨ k = b) tag t w wr ∧ Pb wr (fun k => t k = a) pb (A ++ l) ∧ Rp wr (fun k => t k = b) rb (srt (A ++ l.take i)) ∧ Ow wr t 0 36 5 (.slice (some ⟨g, 0, none⟩) (n + 1) cap) (n + 1) (fl EC (l ++ [⟨77, 0, 0, 77, 77⟩])))) (fun s8 _ => n - (RowKit.intOf s8).toNat)
  case atStart => exact ⟨0, Nat.zero_le _, rfl, IV5.out⟩
  case round =>
    clear IV5
    obtain ⟨i, hi, rfl, HI⟩ := hrel
    by_cases hlt : i < n
    · have hz : (i : Int) < (n : Int) := by omega
      have hi0 : (0 : Int) ≤ (i : Int) := by omega
      obtain ⟨t, n1, p1, r1, o1⟩ := HI.out
      obtain ⟨x, hx⟩ : ∃ x, l[i]? = some x := ⟨l[i]'(by have := HN.out; omega), by simp⟩
      have hlv : Ls EC wr (.slice pv n cv0) l := n1.kp.ls (HV.out.ls hx) (fun k hk => by
        have := HVT.out (fun e => by rw [e] at hx; simp at hx) k hk
        exact fun e => e.elim this.1 this.2)
      obtain ⟨b1, q1, c1, e1, l1, x0, x1, x2, x3, x4⟩ := atC hlv hx
      simp only [Value.slice.injEq] at e1
      obtain ⟨rfl, -, rfl⟩ := e1
      have hc := rcatch_any x wr r1 (BD2.out i hlt)
      have HTK : Hid (A ++ l.take (i + 1) = (A ++ l.take i) ++ [x]) := by
        show _ = _
        rw [take_snoc hx, List.append_assoc]
      have HRB : Hid (t rb = b) := by
        obtain ⟨_, _, h, _⟩ := id r1
        exact h
      have N1 := hid n1
      have P1 := hid p1
      have O1 := hid o1
      clear hx hlv n1 p1 r1 o1 HI
      go_wp2_with fail
      refine hc.mono ?_
      clear hc
      rintro e w6 ⟨rfl, H6⟩
      have HE : Hid (∃ t, Nx (fun k => k = a ∨ k = b) tag t w w6 ∧ Pb w6 (fun k => t k = a) pb (A ++ l) ∧ Rp w6 (fun k => t k = b) rb (srt (A ++ l.take (i + 1))) ∧ Ow w6 t 0 36 5 (.slice (some ⟨g, 0, none⟩) (n + 1) cap) (n + 1) (fl EC (l ++ [⟨77, 0, 0, 77, 77⟩]))) := by
        obtain ⟨at_, r2, j1, j2, k2⟩ := H6.out
        have hput := srt_put (R := srt (A ++ l.take i)) (l := A ++ l.take i) (x := x) (a := at_) rfl j1 j2
        rw [hput, ← HTK.out] at r2
        have N2 : Nx (fun k => k = b) t (tg t wr b) wr w6 := ⟨k2.mono (fun k e => by rw [e]; exact HRB.out), fun _ hk => tg_old hk⟩
        refine ⟨tg t wr b, N1.out.trans (N2.mono (fun _ e => Or.inr e)), P1.out.nx N2 hab, r2.mono fun k _ h => ?_, O1.out.nx N2 (fun e => hb0 e.symm)⟩
        rcases Nat.lt_or_ge k wr.heap.size with hk | hk
        · rw [tg_old hk]
          exact h.elim id (fun h => absurd h (Nat.not_le.2 hk))
        · exact tg_new hk
      clear H6 N1 P1 O1 HRB HTK x0 x1 x2 x3 x4 l1
      go_wp2_with fail
      go_roundw
      case rel => exact ⟨i + 1, hlt, by go_num, HE.out⟩
      case measure => simp [RowKit.intOf]; omega
    · have hz : ¬ ((i : Int) < (n : Int)) := by omega
      have hin : l.take i = l := List.take_of_length_le (by have := HN.out; omega)
      rw [hin] at HI
      obtain ⟨t, n1, p1, r1, o1⟩ := HI.out
      have HLF : Hid (Ls EC wr (.slice (some ⟨g, 0, none⟩) (n + 1) cap) (l ++ [⟨77, 0, 0, 77, 77⟩])) := owns_ls (E := EC) (ts := l ++ [(⟨77, 0, 0, 77, 77⟩ : Ct)]) (owns_re o1.1 (by rw [List.length_append, ← HN.out]; rfl) rfl)
      have HLC : Hid (Ls EC wr (.slice (some ⟨g, 0, none⟩) n cap) l) := by
        have h := HLF.out.cut (k := n) (by rw [List.length_append, ← HN.out]; exact Nat.le_succ n) cap
        rw [List.take_append_of_le_length (by rw [← HN.out]; exact Nat.le_refl _), List.take_of_length_le (by rw [← HN.out]; exact Nat.le_refl _)] at h
        exact h
      have HLV : Hid (Lw EC wr (.slice pv n cv0) l) := by
        by_cases e0 : l = []
        · subst e0
          exact HV.out.nil
        · exact HV.out.kp n1.kp (fun k hk => by
            have := HVT.out e0 k hk
            exact fun e => e.elim this.1 this.2)
      have HSC : Hid (∀ W, Gr wr W → g < W.heap.size ∧ Cc W g (n * 5) ⟨77, 0, 0, 77, 77⟩) := fun W h => by
        obtain ⟨b', o, q', e', l', h'⟩ := atC (HLF.out.below h.below) (j := n) (x := (⟨77, 0, 0, 77, 77⟩ : Ct)) (by rw [List.getElem?_append_right (by rw [← HN.out]; exact Nat.le_refl _), ← HN.out, Nat.sub_self]; rfl)
        simp only [Value.slice.injEq, Option.some.injEq, Addr.mk.injEq, and_true] at e'
        obtain ⟨⟨rfl, rfl⟩, -⟩ := e'
        rw [Nat.zero_add] at h'
        exact ⟨l', h'⟩
      have hS0 : Gr wr wr.drew := (Gr.refl wr).drew
      have hsm : ∀ W, Gr wr W → Calls Try.prog 11 #[.slice (some ⟨g, 0, none⟩) n cap, .slice pv n cv0] W fun e w' => e = .returned (.bool true) ∧ Gr W w' := fun W h => sameW_eq W (HLC.out.below h.below) (HLV.out.below h.below) (by rw [← HN.out]; exact BD.out.2.2.2.2.2.1)
      have hcg := fun W => caught_any 77 77 77 W
      have hcm := HC7.out
      have hcn2 : (n : Int) < ((n + 1 : Nat) : Int) := by omega
      have hcn3 : (n : Int) < (n : Int) + 1 := by omega
      have hcn0 : (0 : Int) ≤ (n : Int) := by omega
      have IV7 : Hid (∃ t X, X.length = n + 1 ∧ Nx (fun k => k = a ∨ k = b) tag t w wr ∧ Pb wr (fun k => t k = a) pb (A ++ l) ∧ Rp wr (fun k => t k = b) rb (srt (A ++ l)) ∧ Ow wr t 0 36 5 (.slice (some ⟨g, 0, none⟩) (n + 1) cap) (n + 1) (fl EC X)) := ⟨t, l ++ [⟨77, 0, 0, 77, 77⟩], by rw [List.length_append, ← HN.out]; rfl, n1, p1, r1, o1⟩
      clear HI n1 p1 r1 o1 HLF HLC HLV hin
      go_upto_region 7 with fail
      refine wp_regionD (S := fun W' => Gr wr W') (D := []) hmx ?_
      refine' wpAnyD_take (i := 0) (oi := { dst := some 35, op := Go.Op.move (Go.Operand.tmp 7), type := 22, pos := "law.go:92", after := #[], guard := none }) (v := _) rfl (by kernel_rfl) (by kernel_rfl) (by kernel_rfl) (fun _ _ _ h => h) (by kernel_rfl) (Or.inl ⟨by rfl, ?hy1⟩) hS0 ?rest1
      case hy1 => (intro W hSw; go_simp; try (with_reducible rfl))
      try simp only [Act.put, List.setIfInBounds_toArray, List.set_cons_zero, List.set_cons_succ]
      refine' wpAnyD_take (i := 1) (oi := { dst := some 36, op := Go.Op.move (Go.Operand.tmp 2), type := 22, pos := "law.go:92", after := #[], guard := none }) (v := _) rfl (by kernel_rfl) (by kernel_rfl) (by kernel_rfl) (fun _ _ _ h => h) (by kernel_rfl) (Or.inl ⟨by rfl, ?hy2⟩) hS0 ?rest2
      case hy2 => (intro W hSw; go_simp; try (with_reducible rfl))
      try simp only [Act.put, List.setIfInBounds_toArray, List.set_cons_zero, List.set_cons_succ]
      refine' wpAnyD_take (i := 2) (oi := { dst := some 37, op := Go.Op.call { callee := Go.Callee.builtin Go.Builtin.len, args := #[Go.Operand.tmp 36], argTypes := #[22] }, type := 3, pos := "law.go:92", after := #[{ on := 1, ground := Go.Ground.data }], guard := none }) (v := _) rfl (by kernel_rfl) (by kernel_rfl) (by kernel_rfl) (fun _ _ _ h => h) (by kernel_rfl) (Or.inl ⟨by rfl, ?hy3⟩) hS0 ?rest3
      case hy3 => (intro W hSw; go_simp; try (with_reducible rfl))
      try simp only [Act.put, List.setIfInBounds_toArray, List.set_cons_zero, List.set_cons_succ]
      refine' wpAnyD_take (i := 3) (oi := { dst := some 38, op := Go.Op.slice 22 (Go.Operand.tmp 35) none (some (Go.Operand.tmp 37)) none, type := 22, pos := "law.go:92", after := #[{ on := 0, ground := Go.Ground.data }, { on := 2, ground := Go.Ground.data }], guard := none }) (v := .slice (some ⟨g, 0, none⟩) n cap) rfl (by kernel_rfl) (by kernel_rfl) (by kernel_rfl) (fun _ _ _ h => h) (by kernel_rfl) (Or.inl ⟨by rfl, ?hy4⟩) hS0 ?rest4
      case hy4 => (intro W hSw; go_simp; try (with_reducible rfl))
      try simp only [Act.put, List.setIfInBounds_toArray, List.set_cons_zero, List.set_cons_succ]
      refine' wpAnyD_take (i := 4) (oi := { dst := some 39, op := Go.Op.move (Go.Operand.tmp 2), type := 22, pos := "law.go:92", after := #[], guard := none }) (v := _) rfl (by kernel_rfl) (by kernel_rfl) (by kernel_rfl) (fun _ _ _ h => h) (by kernel_rfl) (Or.inl ⟨by rfl, ?hy5⟩) hS0 ?rest5
      case hy5 => (intro W hSw; go_simp; try (with_reducible rfl))
      try simp only [Act.put, List.setIfInBounds_toArray, List.set_cons_zero, List.set_cons_succ]
      refine wpAnyD_one (i := 5) (o := { dst := some 40, op := Go.Op.call { callee := Go.Callee.value (Go.Operand.func 11), args := #[Go.Operand.tmp 38, Go.Operand.tmp 39], argTypes := #[22, 22] }, type := 4, pos := "law.go:92", after := #[{ on := 3, ground := Go.Ground.data }, { on := 4, ground := Go.Ground.data }], guard := none }) (by kernel_rfl) rfl (fun K hK => ?_)
      rw [if_pos (by kernel_rfl)]
      go_simp
      refine (hsm _ hS0).mono ?_
      rintro e w5 ⟨rfl, g5⟩
      have hS5 : Gr wr w5 := hS0.trans g5
      clear g5
      dsimp only
      refine hK.out _ _ (fun hD => hS5) ?_
      clear hK K
      try simp only [Act.put, List.setIfInBounds_toArray, List.set_cons_zero, List.set_cons_succ]
      refine' wpAnyD_take (i := 6) (oi := { dst := some 41, op := Go.Op.move (Go.Operand.tmp 40), type := 4, pos := "law.go:92", after := #[{ on := 5, ground := Go.Ground.data }, { on := 5, ground := Go.Ground.chain }], guard := none }) (v := _) rfl (by kernel_rfl) (by kernel_rfl) (by kernel_rfl) (fun _ _ _ h => h) (by kernel_rfl) (Or.inl ⟨by rfl, ?hy7⟩) hS5 ?rest7
      case hy7 => (intro W hSw; go_simp; try (with_reducible rfl))
      try simp only [Act.put, List.setIfInBounds_toArray, List.set_cons_zero, List.set_cons_succ]
      refine' wpAnyD_take (i := 7) (oi := { dst := some 42, op := Go.Op.move (Go.Operand.tmp 7), type := 22, pos := "law.go:92", after := #[{ on := 6, ground := Go.Ground.guard }], guard := some (6, true) }) (v := _) rfl (by kernel_rfl) (by kernel_rfl) (by kernel_rfl) (fun _ _ _ h => h) (by kernel_rfl) (Or.inl ⟨by rfl, ?hy8⟩) hS5 ?rest8
      case hy8 => (intro W hSw; go_simp; try (with_reducible rfl))
      try simp only [Act.put, List.setIfInBounds_toArray, List.set_cons_zero, List.set_cons_succ]
      refine' wpAnyD_take (i := 8) (oi := { dst := some 43, op := Go.Op.move (Go.Operand.tmp 2), type := 22, pos := "law.go:92", after := #[{ on := 6, ground := Go.Ground.guard }], guard := some (6, true) }) (v := _) rfl (by kernel_rfl) (by kernel_rfl) (by kernel_rfl) (fun _ _ _ h => h) (by kernel_rfl) (Or.inl ⟨by rfl, ?hy9⟩) hS5 ?rest9
      case hy9 => (intro W hSw; go_simp; try (with_reducible rfl))
      try simp only [Act.put, List.setIfInBounds_toArray, List.set_cons_zero, List.set_cons_succ]
      refine' wpAnyD_take (i := 9) (oi := { dst := some 44, op := Go.Op.call { callee := Go.Callee.builtin Go.Builtin.len, args := #[Go.Operand.tmp 43], argTypes := #[22] }, type := 3, pos := "law.go:92", after := #[{ on := 8, ground := Go.Ground.data }, { on := 6, ground := Go.Ground.guard }], guard := some (6, true) }) (v := _) rfl (by kernel_rfl) (by kernel_rfl) (by kernel_rfl) (fun _ _ _ h => h) (by kernel_rfl) (Or.inl ⟨by rfl, ?hy10⟩) hS5 ?rest10
      case hy10 => (intro W hSw; go_simp; try (with_reducible rfl))
      try simp only [Act.put, List.setIfInBounds_toArray, List.set_cons_zero, List.set_cons_succ]
      refine' wpAnyD_take (i := 10) (oi := { dst := some 45, op := Go.Op.indexAddr 22 (Go.Operand.tmp 42) (Go.Operand.tmp 44), type := 0, pos := "law.go:92", after := #[{ on := 7, ground := Go.Ground.data }, { on := 9, ground := Go.Ground.data }, { on := 6, ground := Go.Ground.guard }], guard := some (6, true) }) (v := _) rfl (by kernel_rfl) (by kernel_rfl) (by kernel_rfl) (fun _ _ _ h => h) (by kernel_rfl) (Or.inl ⟨by rfl, ?hy11⟩) hS5 ?rest11
      case hy11 => (intro W hSw; obtain ⟨s1, ⟨s2, s3, s4, s5, s6⟩⟩ := HSC.out W hSw; go_simp; try (with_reducible rfl))
      try simp only [Act.put, List.setIfInBounds_toArray, List.set_cons_zero, List.set_cons_succ]
      refine' wpAnyD_take (i := 11) (oi := { dst := some 46, op := Go.Op.load 36 (Go.Operand.tmp 45), type := 36, pos := "law.go:92", after := #[{ on := 10, ground := Go.Ground.data }, { on := 6, ground := Go.Ground.guard }], guard := some (6, true) }) (v := _) rfl (by kernel_rfl) (by kernel_rfl) (by kernel_rfl) (fun _ _ _ h => h) (by kernel_rfl) (Or.inl ⟨by rfl, ?hy12⟩) hS5 ?rest12
      case hy12 => (intro W hSw; obtain ⟨s1, ⟨s2, s3, s4, s5, s6⟩⟩ := HSC.out W hSw; go_simp; try (with_reducible rfl))
      try simp only [Act.put, List.setIfInBounds_toArray, List.set_cons_zero, List.set_cons_succ]
      refine wpAnyD_one (i := 12) (o := { dst := some 47, op := Go.Op.call { callee := Go.Callee.value (Go.Operand.func 29), args := #[Go.Operand.const (Go.Value.int Go.IntKind.u64 77), Go.Operand.const (Go.Value.int Go.IntKind.u64 77), Go.Operand.const (Go.Value.int Go.IntKind.u64 77)], argTypes := #[23, 23, 23] }, type := 36, pos := "law.go:92", after := #[{ on := 6, ground := Go.Ground.chain }, { on := 6, ground := Go.Ground.guard }], guard := some (6, true) }) (by kernel_rfl) rfl (fun K hK => ?_)
      rw [if_pos (by kernel_rfl)]
      go_simp
      refine (hcg _).mono ?_
      rintro e w6 ⟨rfl, g6⟩
      have hS6 : Gr wr w6 := hS5.trans g6
      clear g6
      dsimp only
      refine hK.out _ _ (fun hD => hS6) ?_
      clear hK K
      try simp only [Act.put, List.setIfInBounds_toArray, List.set_cons_zero, List.set_cons_succ]
      refine' wpAnyD_take (i := 13) (oi := { dst := some 48, op := Go.Op.binOp Go.BinOp.eql 36 (Go.Operand.tmp 46) (Go.Operand.tmp 47) 36, type := 4, pos := "law.go:92", after := #[{ on := 11, ground := Go.Ground.data }, { on := 12, ground := Go.Ground.data }, { on := 6, ground := Go.Ground.guard }], guard := some (6, true) }) (v := .bool true) rfl (by kernel_rfl) (by kernel_rfl) (by kernel_rfl) (fun _ _ _ h => h) (by kernel_rfl) (Or.inl ⟨by rfl, ?hy14⟩) hS6 ?rest14
      case hy14 => (intro W hSw; go_simp; try (with_reducible rfl))
      try simp only [Act.put, List.setIfInBounds_toArray, List.set_cons_zero, List.set_cons_succ]
      refine' wpAnyD_take (i := 14) (oi := { dst := some 49, op := Go.Op.pick (Go.Operand.tmp 41) (Go.Operand.tmp 48) (Go.Operand.const (Go.Value.bool false)), type := 4, pos := "law.go:92", after := #[{ on := 6, ground := Go.Ground.data }, { on := 13, ground := Go.Ground.data }], guard := none }) (v := .bool true) rfl (by kernel_rfl) (by kernel_rfl) (by kernel_rfl) (fun _ _ _ h => h) (by kernel_rfl) (Or.inl ⟨by rfl, ?hy15⟩) hS6 ?rest15
      case hy15 => (intro W hSw; go_simp; try (with_reducible rfl))
      try simp only [Act.put, List.setIfInBounds_toArray, List.set_cons_zero, List.set_cons_succ]
      refine wpAnyD_one (i := 15) (o := { dst := some 9, op := Go.Op.assign (Go.Operand.tmp 49), type := 4, pos := "law.go:92", after := #[{ on := 14, ground := Go.Ground.data }, { on := 12, ground := Go.Ground.chain }, { on := 0, ground := Go.Ground.phase }, { on := 1, ground := Go.Ground.phase }, { on := 2, ground := Go.Ground.phase }, { on := 3, ground := Go.Ground.phase }, { on := 4, ground := Go.Ground.phase }, { on := 5, ground := Go.Ground.phase }, { on := 6, ground := Go.Ground.phase }, { on := 7, ground := Go.Ground.phase }, { on := 8, ground := Go.Ground.phase }, { on := 9, ground := Go.Ground.phase }, { on := 10, ground := Go.Ground.phase }, { on := 11, ground := Go.Ground.phase }, { on := 12, ground := Go.Ground.phase }, { on := 13, ground := Go.Ground.phase }, { on := 14, ground := Go.Ground.phase }], guard := none }) (by kernel_rfl) rfl (fun K hK => ?_)
      rw [if_pos (by kernel_rfl)]
      go_simp
      refine hK.out _ _ (fun hD => hS6) ?_
      clear hK K
      try simp only [Act.put, List.setIfInBounds_toArray, List.set_cons_zero, List.set_cons_succ]
      refine wpAnyD_done (by kernel_rfl) ?_ _
      have IV8 : Hid (∃ t X, X.length = n + 1 ∧ Nx (fun k => k = a ∨ k = b) tag t w w6 ∧ Pb w6 (fun k => t k = a) pb (A ++ l) ∧ Rp w6 (fun k => t k = b) rb (srt (A ++ l)) ∧ Ow w6 t 0 36 5 (.slice (some ⟨g, 0, none⟩) (n + 1) cap) (n + 1) (fl EC X)) := by
        obtain ⟨t, X, h1, h2, h3, h4, h5⟩ := IV7.out
        have hn : Nx (fun _ => False) t t wr w6 := Nx.same _ t hS6.below
        exact ⟨t, X, h1, h2.trans (hn.mono (fun _ h => h.elim)), h3.nx hn (fun h => h), h4.nx hn (fun h => h), h5.nx hn (fun h => h)⟩
      clear IV7 hsm hcg hcm HSC hS0 hS5 hS6 hz hi
      go_wp2_with fail
      go_loopw [10] (fun s10 wq => ∃ i : Nat, i ≤ n + 1 ∧ s10 = .int .i64 (i : Nat) ∧ Hid (∃ t X, X.length = n + 1 ∧ Nx (fun k => k = a ∨ k = b) tag t w wq ∧ Pb wq (fun k => t k = a) pb (A ++ l) ∧ Rp wq (fun k => t k = b) rb (srt (A ++ l)) ∧ Ow wq t 0 36 5 (.slice (some ⟨g, 0, none⟩) (n + 1) cap) (n + 1) (fl EC X))) (fun s10 _ => n + 1 - (RowKit.intOf s10).toNat)
      case atStart => exact ⟨0, Nat.zero_le _, rfl, IV8.out⟩
      case round =>
        clear IV8
        obtain ⟨i, hi, rfl, HI⟩ := hrel
        by_cases hlt : i < n + 1
        · have hz : (i : Int) < ((n + 1 : Nat) : Int) := by omega
          have hz2 : (i : Int) < (n : Int) + 1 := by omega
          have hi0 : (0 : Int) ≤ (i : Int) := by omega
          have hwr : IntKind.u64.wrap (i : Int) = (i : Int) := by rw [IntKind.wrap_u64]; omega
          have hcg := fun W => caught_any 3 3 (i : Int) W
          go_wp2_with fail
          refine (hcg _).mono ?_
          rintro e w7 ⟨rfl, g7⟩
          have HI7 : Hid (∃ t X, X.length = n + 1 ∧ Nx (fun k => k = a ∨ k = b) tag t w w7 ∧ Pb w7 (fun k => t k = a) pb (A ++ l) ∧ Rp w7 (fun k => t k = b) rb (srt (A ++ l)) ∧ Ow w7 t 0 36 5 (.slice (some ⟨g, 0, none⟩) (n + 1) cap) (n + 1) (fl EC X)) := by
            obtain ⟨t, X, h1, h2, h3, h4, h5⟩ := HI.out
            have hn := Nx.same (fun _ => False) t g7.below
            exact ⟨t, X, h1, h2.trans (hn.mono (fun _ h => h.elim)), h3.nx hn (fun h => h), h4.nx hn (fun h => h), h5.nx hn (fun h => h)⟩
          obtain ⟨t, X, hX, n7, p7, r7, o7⟩ := HI7.out
          obtain ⟨y, hy⟩ : ∃ y, X[i]? = some y := ⟨X[i]'(by omega), by simp⟩
          obtain ⟨b', o, q', e', l', y0, y1, y2, y3, y4⟩ := atC (owns_ls (E := EC) (ts := X) (owns_re o7.1 hX.symm rfl)) hy
          simp only [Value.slice.injEq, Option.some.injEq, Addr.mk.injEq, and_true] at e'
          obtain ⟨⟨rfl, rfl⟩, -⟩ := e'
          rw [Nat.zero_add] at y0 y1 y2 y3 y4
          have z0 := owns_frozen0 o7.1 (i * 5)
          have z1 := owns_frozen0 o7.1 (i * 5 + 1)
          have z2 := owns_frozen0 o7.1 (i * 5 + 2)
          have z3 := owns_frozen0 o7.1 (i * 5 + 3)
          have z4 := owns_frozen0 o7.1 (i * 5 + 4)
          obtain ⟨m1, m2⟩ := owns_set5 (k := i) ⟨3, 0, 0, 3, (i : Int)⟩ o7.1
          have HE : Hid (∃ t X, X.length = n + 1 ∧ Nx (fun k => k = a ∨ k = b) tag t w (((((w7.setCell ⟨g, i * 5, none⟩ (.int .u64 3)).setCell ⟨g, i * 5 + 1, none⟩ (.int .u64 0)).setCell ⟨g, i * 5 + 2, none⟩ (.int .u64 0)).setCell ⟨g, i * 5 + 3, none⟩ (.int .u64 3)).setCell ⟨g, i * 5 + 4, none⟩ (.int .u64 (i : Int))) ∧ Pb (((((w7.setCell ⟨g, i * 5, none⟩ (.int .u64 3)).setCell ⟨g, i * 5 + 1, none⟩ (.int .u64 0)).setCell ⟨g, i * 5 + 2, none⟩ (.int .u64 0)).setCell ⟨g, i * 5 + 3, none⟩ (.int .u64 3)).setCell ⟨g, i * 5 + 4, none⟩ (.int .u64 (i : Int))) (fun k => t k = a) pb (A ++ l) ∧ Rp (((((w7.setCell ⟨g, i * 5, none⟩ (.int .u64 3)).setCell ⟨g, i * 5 + 1, none⟩ (.int .u64 0)).setCell ⟨g, i * 5 + 2, none⟩ (.int .u64 0)).setCell ⟨g, i * 5 + 3, none⟩ (.int .u64 3)).setCell ⟨g, i * 5 + 4, none⟩ (.int .u64 (i : Int))) (fun k => t k = b) rb (srt (A ++ l)) ∧ Ow (((((w7.setCell ⟨g, i * 5, none⟩ (.int .u64 3)).setCell ⟨g, i * 5 + 1, none⟩ (.int .u64 0)).setCell ⟨g, i * 5 + 2, none⟩ (.int .u64 0)).setCell ⟨g, i * 5 + 3, none⟩ (.int .u64 3)).setCell ⟨g, i * 5 + 4, none⟩ (.int .u64 (i : Int))) t 0 36 5 (.slice (some ⟨g, 0, none⟩) (n + 1) cap) (n + 1) (fl EC X)) := by
            have hg0 : t g = 0 := o7.2 g rfl
            have hn : Nx (fun k => k = 0) t t w7 (((((w7.setCell ⟨g, i * 5, none⟩ (.int .u64 3)).setCell ⟨g, i * 5 + 1, none⟩ (.int .u64 0)).setCell ⟨g, i * 5 + 2, none⟩ (.int .u64 0)).setCell ⟨g, i * 5 + 3, none⟩ (.int .u64 3)).setCell ⟨g, i * 5 + 4, none⟩ (.int .u64 (i : Int))) := ⟨m2.mono (fun k e => by rw [e]; exact hg0), fun _ _ => rfl⟩
            refine ⟨t, X.set i ⟨3, 0, 0, 3, (i : Int)⟩, by rw [List.length_set]; exact hX, ⟨n7.kp.trans m2 (fun k hk e => ?_), n7.old⟩, p7.nx hn ha0, r7.nx hn hb0, ⟨m1, fun k hk => o7.2 k hk⟩⟩
            have := HCAP.out.2.2
            omega
          clear m1 m2 n7 p7 r7 o7 hX hy HI HI7 g7 hcg
          go_wp2_with fail
          go_roundw
          case rel => exact ⟨i + 1, by omega, by go_num, HE.out⟩
          case measure => simp [RowKit.intOf]; omega
        · have hz : ¬ ((i : Int) < ((n + 1 : Nat) : Int)) := by omega
          have hz2 : ¬ ((i : Int) < (n : Int) + 1) := by omega
          go_wp2
          go_ret
          obtain ⟨t, X, -, h2, h3, h4, -⟩ := HI.out
          exact ⟨rfl, t, h2, h3, h4⟩
end Go.Proofs.Ytghpekkncfckaaa.Ca
