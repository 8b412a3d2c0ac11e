import Derived.Test.YtdnnfgabdkkdjaaGreatJ21
namespace Go.Proofs.YtdnnfgabdkkdjaaGreat
open Go.RowKit Go.Sort
section
variable {α : Type} (E : El α) (e eS : TypeId) (mk : Nat → α) (d : Nat)
variable {E e eS mk d}
end
end Go.Proofs.YtdnnfgabdkkdjaaGreat

namespace Go.Proofs.YtdnnfgabdkkdjaaGreat
open Go.RowKit Go.Sort
theorem app_keep {P : Program} (w : World) (t ty e : TypeId) (i : TypeInfo) (z : Value) (size bytes : Nat) (ht : P.underlying t = some (.slice e)) (hi : P.info? e = some i) (hz : i.zero = some z)
    (hsize : i.size = size) (hby : i.bytes = bytes) (hzs : z.cells.size = size) (hsz : 0 < size)
    (v : Value) (n : Nat) (xs : List Value) (hown : w.ownsRow 0 e size v n xs)
    (ad : Addr) (m c : Nat) (news : List Value) (hl : news.length = m * size) (hnews : ∀ j u, news[j]? = some u → w.cell? (ad.add j) = some u) (h1 : ∀ u ∈ news, u.oneCell' = true)
    (hm : 0 < m) (h63 : n + m ≤ maxLen) (hbytes : (n + m) * bytes ≤ 140737488355328) :
    ∃ g cap w', (Builtin.append_ #[t, t] ty #[v, .slice (some ad) m c]).run P w = .ok (.slice (some ⟨g, 0, none⟩) (n + m) cap) w' ∧ w'.ownsRow 0 e size (.slice (some ⟨g, 0, none⟩) (n + m) cap) (n + m) (xs ++ news) ∧ w.grownBy w' v.ownBlock ∧
     (v.ownBlock = some g ∨ g = w.heap.size) ∧ ∀ q, v.ownBlock = some q → ∀ j u, xs[j]? = some u → w'.cell? ⟨q, j, none⟩ = some u := by
 obtain ⟨g, cap, w', hr, h2, h3, h4, _⟩ := run_append_lies (P := P) w t ty 0 e i z size bytes ht hi hz hsize hby hzs hsz v n xs hown ad m c news hl hnews h1 hm h63 hbytes (Nat.zero_le _) _ rfl
 refine ⟨g, cap, w', hr, h2, h3, h4, ?_⟩
 subst hsize
 subst hby
 obtain ⟨hlx, ⟨rfl, _⟩ | ⟨g0, cap0, cur, rfl, _, hg0, hnc, hcm, hcs, htk⟩⟩ := id hown
 ·intro q hq
  simp [Value.ownBlock] at hq
 ·intro q hq j u hu
  have hq' : q = g0 := by simpa [Value.ownBlock] using hq.symm
  subst hq'
  by_cases hroom : n + m ≤ cap0
  ·have hfit : n * i.size + news.length ≤ cur.size := by rw [hl, hcs, ← Nat.add_mul]; exact Nat.mul_le_mul_right _ hroom
   have hr2 := run_append_room (P := P) w t ty e i ht hi q n cap0 cur hg0 ad m c news hl hnews h1 hroom hfit
   rw [hr] at hr2
   simp only [Result.ok.injEq, Value.slice.injEq, Option.some.injEq, Addr.mk.injEq, and_true] at hr2
   obtain ⟨⟨rfl, _⟩, _⟩ := hr2
   have := h2.cells (g := g) rfl j u (by rw [List.getElem?_append_left (List.getElem?_eq_some_iff.1 hu).1]; exact hu)
   rw [addA, Nat.zero_add] at this
   exact this
  ·have holds : ∀ j u, xs[j]? = some u → w.cell? ((⟨q, 0, none⟩ : Addr).add j) = some u := hown.cells (g := q) rfl
   have hr2 := run_append_grow (P := P) w t ty e i z ht hi hz ⟨q, 0, none⟩ n cap0 xs hown.1 holds ad m c news hl hnews (by omega) (by unfold maxLen at h63; omega) (growslice_fits (by omega) hbytes)
   rw [hr] at hr2
   simp only [Result.ok.injEq] at hr2
   obtain ⟨_, rfl⟩ := hr2
   have hql : q < w.heap.size := (Array.getElem?_eq_some_iff.1 hg0).1
   have hb := ((Gr.refl w).drew.alloc (.cells (xs.toArray ++ news.toArray ++ Builtin.zeroCells z.cells (grownCap w (n + m) cap0 e - (n + m))) e)).cell (b := q) (o := j) hql
   rw [hb]
   have := holds j u hu
   rw [addA, Nat.zero_add] at this
   exact this
theorem wpAppKeep1 {P : Program} {α : Type} (E : El α) {e sT : TypeId} {z : Value} {bt : Nat} (hu : P.underlying sT = some (.slice e)) (hI : (P.info? e).map (fun i => (i.zero, i.size, i.bytes)) = some (some z, E.k, bt)) (hz : z.cells.size = E.k) (hk0 : 0 < E.k)
    {w : World} {ops : Array Oper} {rest : List Oper} {o : Oper} {a : Act} {Q : Exit → Act → World → Prop} (hgd : o.guard = none) (s y : Operand)
    (ho : o.op = .call ⟨.builtin .append, #[s, y], #[sT, sT]⟩)
    (v : Value) (n : Nat) (l : List α) (hs : a.eval s = v) (hown : w.ownsRow 0 e E.k v n (fl E l))
    (x : α) (hx : a.eval y = .slice (some ⟨w.heap.size, 0, none⟩) 1 1) (hbig : (n + 1) * bt ≤ 140737488355328) (hmx : n + 1 ≤ maxLen)
    (cs : Array Value) (hcs : cs.toList = E.enc x) (te : TypeId)
    (h : ∀ g cap w', w'.ownsRow 0 e E.k (.slice (some ⟨g, 0, none⟩) (n + 1) cap) (n + 1) (fl E l ++ E.enc x) → Kp (fun q => v.ownBlock = some q) w w' → (v.ownBlock = some g ∨ w.heap.size ≤ g) → (∀ q, v.ownBlock = some q → ∀ j u, (fl E l)[j]? = some u → w'.cell? ⟨q, j, none⟩ = some u) → wpList P ops Q rest (a.put o.dst (.slice (some ⟨g, 0, none⟩) (n + 1) cap)) w') :
    wpList P ops Q (o :: rest) a (w.alloc (.cells cs te)) := by
 obtain ⟨i0, hi, hz0, hz1, hz2⟩ := info_parts hI
 have hown' := hown.alloc (.cells cs te)
 obtain ⟨g, cap, w', hr, h2, h3, h4, h5⟩ := app_keep (P := P) (w.alloc (.cells cs te)) sT o.type e i0 _ E.k bt hu hi hz0 hz1 hz2 hz hk0 v n (fl E l) hown' ⟨w.heap.size, 0, none⟩ 1 1 (E.enc x) (by rw [E.len, Nat.one_mul]) (by have := World.news_of_block (heap_new' w (.cells cs te)); rw [hcs] at this; exact this) (E.one x) (by decide) hmx hbig
 refine wpList_plain hgd fun K hK => ?_
 unfold Oper.wp execOp
 simp only [ho, resolve, invoke, builtin, Sem.run_bind, Sem.run_pure, Result.andThen_ok, List.map_toArray, List.map_cons, List.map_nil, hs, hx, hr]
 have hk : Kp (fun q => v.ownBlock = some q) w w' := (Kp.of_below ((Gr.refl w).alloc _).below).trans (Kp.grownBy (S := fun q => v.ownBlock = some q) h3 (fun _ h => h)) (fun _ _ h => h)
 refine hK _ _ (h g cap w' h2 hk (h4.imp id (fun e => by rw [e]; simp)) h5)
end Go.Proofs.YtdnnfgabdkkdjaaGreat

namespace Go.Proofs.YtdnnfgabdkkdjaaGreat.Lf
open Go.RowKit Go.Sort Pt
open Df (hid Gph plN Gok GR NV Edg gof gvc Gcap EI tk_store tk_lt owns_form owns_caps)
attribute [local go_sem ↓] Go.wp_at_zero Go.wp_at_succ
abbrev tri1 (x : Int) (h : 0 ≤ x ∧ x < 18446744073709551616) : Tri := ⟨(0, 0, x), (wf_iff 0).2 (by omega), (wf_iff 0).2 (by omega), (wf_iff x).2 h⟩
abbrev t71 : Tri := tri1 71 (by decide)
abbrev t72 : Tri := tri1 72 (by decide)
abbrev t73 : Tri := tri1 73 (by decide)
abbrev t74 : Tri := tri1 74 (by decide)
abbrev t0 : Tri := tri1 0 (by decide)
abbrev t9 : Tri := ⟨(9, 0, 0), (wf_iff 9).2 (by omega), (wf_iff 0).2 (by omega), (wf_iff 0).2 (by omega)⟩
structure Rv {α : Type} (E : El α) (T : TypeId) (tag : Nat → Nat) (j : Nat) (W : World) (v : Value) (L : List α) : Prop where
 own : W.ownsRow 0 T E.k v L.length (fl E L)
 tg : ∀ g, v.ownBlock = some g → tag g = j
structure Rr {α : Type} (E : El α) (tag : Nat → Nat) (j : Nat) (W : World) (v : Value) (L : List α) : Prop where
 ls : Ls E W v L
 tg : ∀ g, v.ownBlock = some g → tag g = j ∨ tag g = 0
section
variable {α : Type} {E : El α} {T : TypeId} {tag : Nat → Nat} {i j : Nat} {W W' : World} {v : Value} {L : List α}
theorem Rv.keep (h : Rv E T tag j W v L) (k : Kp (fun q => tag q = i) W W') (hij : i ≠ j) : Rv E T tag j W' v L :=
 ⟨owns_kp k h.own (fun g hg e => hij (e.symm.trans (h.tg g hg))), h.tg⟩
theorem Rv.below (h : Rv E T tag j W v L) (k : Below W.heap.size W W') : Rv E T tag j W' v L := ⟨owns_below h.own k, h.tg⟩
theorem Rr.keep (h : Rr E tag j W v L) (k : Kp (fun q => tag q = i) W W') (hij : i ≠ j) (hi : i ≠ 0) : Rr E tag j W' v L :=
 ⟨k.ls h.ls (fun g hg e => by rcases h.tg g hg with h1 | h1 <;> omega), h.tg⟩
theorem Rv.kp (h : Rv E T tag j W v L) (k : Kp (fun q => v.ownBlock = some q) W W') : Kp (fun q => tag q = j) W W' := k.mono (fun q hq => h.tg q hq)
theorem Rv.form (h : Rv E T tag j W v L) : ∃ p c, v = .slice p L.length c := (owns_ls h.own).form
theorem Rv.addr (h : Rv E T tag j W v L) {k : Nat} (hk : k < L.length) : ∃ g c, v = .slice (some ⟨g, 0, none⟩) L.length c ∧ tag g = j ∧ g < W.heap.size ∧ ∀ o, W.frozen? ⟨g, o, none⟩ = false := by
 obtain ⟨n, hn⟩ : ∃ n, L.length = n + 1 := ⟨L.length - 1, by omega⟩
 have ho := h.own
 rw [hn] at ho
 obtain ⟨g, c, rfl⟩ := own_form ho
 obtain ⟨h1, h2, _⟩ := owns_free ho
 exact ⟨g, c, by rw [hn], h.tg g rfl, h2, h1⟩
end
theorem fl_tri (L : List Tri) (i : Nat) (x : Tri) : ((((fl Pc.ET L).set (i * 3) (.int .u64 x.1.1)).set (i * 3 + 1) (.int .u64 x.1.2.1)).set (i * 3 + 2) (.int .u64 x.1.2.2)) = fl Pc.ET (L.set i x) := by
 induction L generalizing i with
 | nil => simp [fl]
 | cons y L ih =>
  rw [fl_cons]
  cases i with
  | zero => simp [Pc.ET, fl]
  | succ i =>
   rw [List.set_cons_succ, fl_cons, ← ih i, show (i + 1) * 3 = i * 3 + 3 by omega]
   simp [Pc.ET]
theorem fl_int (L : List Int) (i : Nat) (x : Int) : (fl EI L).set i (.int .i64 x) = fl EI (L.set i x) := by
 induction L generalizing i with
 | nil => simp [fl]
 | cons y L ih =>
  rw [fl_cons]
  cases i with
  | zero => simp [EI, fl]
  | succ i =>
   rw [List.set_cons_succ, fl_cons, ← ih i]
   simp [EI]
theorem Rv.setF {T : TypeId} {tag : Nat → Nat} {j g c : Nat} {W : World} {L : List Hf.Th} (hT : T = 52) (h : Rv EF T tag j W (.slice (some ⟨g, 0, none⟩) L.length c) L) (i : Nat) (x : Hf.Th) :
    Rv EF T tag j ((((W.setCell ⟨g, i * 4, none⟩ (.int .i64 x.1)).setCell ⟨g, i * 4 + 1, none⟩ (.int .u64 x.2.1.1)).setCell ⟨g, i * 4 + 2, none⟩ (.int .u64 x.2.1.2.1)).setCell ⟨g, i * 4 + 3, none⟩ (.int .u64 x.2.1.2.2)) (.slice (some ⟨g, 0, none⟩) L.length c) (L.set i x) ∧
     Kp (fun q => tag q = j) W ((((W.setCell ⟨g, i * 4, none⟩ (.int .i64 x.1)).setCell ⟨g, i * 4 + 1, none⟩ (.int .u64 x.2.1.1)).setCell ⟨g, i * 4 + 2, none⟩ (.int .u64 x.2.1.2.1)).setCell ⟨g, i * 4 + 3, none⟩ (.int .u64 x.2.1.2.2)) := by
 subst hT
 obtain ⟨h1, h2⟩ := owns_th (i := i) x h.own
 exact ⟨⟨by rw [List.length_set]; exact h1, h.tg⟩, h2.mono (fun q e => by rw [e]; exact h.tg g rfl)⟩
theorem Rv.setT {T : TypeId} {tag : Nat → Nat} {j g c : Nat} {W : World} {L : List Tri} (h : Rv Pc.ET T tag j W (.slice (some ⟨g, 0, none⟩) L.length c) L) (i : Nat) (x : Tri) :
    Rv Pc.ET T tag j (((W.setCell ⟨g, i * 3, none⟩ (.int .u64 x.1.1)).setCell ⟨g, i * 3 + 1, none⟩ (.int .u64 x.1.2.1)).setCell ⟨g, i * 3 + 2, none⟩ (.int .u64 x.1.2.2)) (.slice (some ⟨g, 0, none⟩) L.length c) (L.set i x) ∧
     Kp (fun q => tag q = j) W (((W.setCell ⟨g, i * 3, none⟩ (.int .u64 x.1.1)).setCell ⟨g, i * 3 + 1, none⟩ (.int .u64 x.1.2.1)).setCell ⟨g, i * 3 + 2, none⟩ (.int .u64 x.1.2.2)) := by
 obtain ⟨h0, m0⟩ := owns_cellB (q := i * 3) (.int .u64 x.1.1) h.own
 obtain ⟨h1, m1⟩ := owns_cellB (q := i * 3 + 1) (.int .u64 x.1.2.1) h0
 obtain ⟨h2, m2⟩ := owns_cellB (q := i * 3 + 2) (.int .u64 x.1.2.2) h1
 rw [fl_tri] at h2
 exact ⟨⟨by rw [List.length_set]; exact h2, h.tg⟩, ((m0.trans m1 (fun _ _ h => h)).trans m2 (fun _ _ h => h)).mono (fun q e => by rw [e]; exact h.tg g rfl)⟩
theorem Rv.setI {T : TypeId} {tag : Nat → Nat} {j g c : Nat} {W : World} {L : List Int} (h : Rv EI T tag j W (.slice (some ⟨g, 0, none⟩) L.length c) L) (i : Nat) (x : Int) :
    Rv EI T tag j (W.setCell ⟨g, i, none⟩ (.int .i64 x)) (.slice (some ⟨g, 0, none⟩) L.length c) (L.set i x) ∧ Kp (fun q => tag q = j) W (W.setCell ⟨g, i, none⟩ (.int .i64 x)) := by
 obtain ⟨h0, m0⟩ := owns_cellB (q := i) (.int .i64 x) h.own
 rw [fl_int] at h0
 exact ⟨⟨by rw [List.length_set]; exact h0, h.tg⟩, m0.mono (fun q e => by rw [e]; exact h.tg g rfl)⟩
structure Sx (W1 : World) (tag : Nat → Nat) (vF va vb vm vn vf vh : Value) (W : World) (LF : List Hf.Th) (La Lb : List Tri) (Lm Ln : List Int) (Lf Lh : List Tri) : Prop where
 kp : Kp (fun k => tag k ≠ 0) W1 W
 F : Rv EF 52 tag 1 W vF LF
 a : Rv Pc.ET 39 tag 2 W va La
 b : Rv Pc.ET 39 tag 3 W vb Lb
 m : Rv EI 3 tag 4 W vm Lm
 n : Rv EI 3 tag 5 W vn Ln
 f : Rv Pc.ET 50 tag 6 W vf Lf
 h : Rv Pc.ET 50 tag 7 W vh Lh
section
variable {W1 : World} {tag : Nat → Nat} {vF va vb vm vn vf vh : Value} {W W' : World} {LF : List Hf.Th} {La Lb : List Tri} {Lm Ln : List Int} {Lf Lh : List Tri}
theorem Sx.below (s : Sx W1 tag vF va vb vm vn vf vh W LF La Lb Lm Ln Lf Lh) (k : Below W.heap.size W W') : Sx W1 tag vF va vb vm vn vf vh W' LF La Lb Lm Ln Lf Lh :=
 ⟨s.kp.trans (T := fun _ => False) (Kp.of_below k) (fun _ _ h => h.elim), s.F.below k, s.a.below k, s.b.below k, s.m.below k, s.n.below k, s.f.below k, s.h.below k⟩
theorem Sx.kps (s : Sx W1 tag vF va vb vm vn vf vh W LF La Lb Lm Ln Lf Lh) {j : Nat} (k : Kp (fun q => tag q = j) W W') (hj : j ≠ 0) : Kp (fun k => tag k ≠ 0) W1 W' := s.kp.trans k (fun q _ e => by omega)
theorem Sx.F' (s : Sx W1 tag vF va vb vm vn vf vh W LF La Lb Lm Ln Lf Lh) {L' : List Hf.Th} (k : Kp (fun q => tag q = 1) W W') (r : Rv EF 52 tag 1 W' vF L') : Sx W1 tag vF va vb vm vn vf vh W' L' La Lb Lm Ln Lf Lh :=
 ⟨s.kps k (by decide), r, s.a.keep k (by decide), s.b.keep k (by decide), s.m.keep k (by decide), s.n.keep k (by decide), s.f.keep k (by decide), s.h.keep k (by decide)⟩
theorem Sx.a' (s : Sx W1 tag vF va vb vm vn vf vh W LF La Lb Lm Ln Lf Lh) {L' : List Tri} (k : Kp (fun q => tag q = 2) W W') (r : Rv Pc.ET 39 tag 2 W' va L') : Sx W1 tag vF va vb vm vn vf vh W' LF L' Lb Lm Ln Lf Lh :=
 ⟨s.kps k (by decide), s.F.keep k (by decide), r, s.b.keep k (by decide), s.m.keep k (by decide), s.n.keep k (by decide), s.f.keep k (by decide), s.h.keep k (by decide)⟩
theorem Sx.b' (s : Sx W1 tag vF va vb vm vn vf vh W LF La Lb Lm Ln Lf Lh) {L' : List Tri} (k : Kp (fun q => tag q = 3) W W') (r : Rv Pc.ET 39 tag 3 W' vb L') : Sx W1 tag vF va vb vm vn vf vh W' LF La L' Lm Ln Lf Lh :=
 ⟨s.kps k (by decide), s.F.keep k (by decide), s.a.keep k (by decide), r, s.m.keep k (by decide), s.n.keep k (by decide), s.f.keep k (by decide), s.h.keep k (by decide)⟩
theorem Sx.m' (s : Sx W1 tag vF va vb vm vn vf vh W LF La Lb Lm Ln Lf Lh) {L' : List Int} (k : Kp (fun q => tag q = 4) W W') (r : Rv EI 3 tag 4 W' vm L') : Sx W1 tag vF va vb vm vn vf vh W' LF La Lb L' Ln Lf Lh :=
 ⟨s.kps k (by decide), s.F.keep k (by decide), s.a.keep k (by decide), s.b.keep k (by decide), r, s.n.keep k (by decide), s.f.keep k (by decide), s.h.keep k (by decide)⟩
theorem Sx.n' (s : Sx W1 tag vF va vb vm vn vf vh W LF La Lb Lm Ln Lf Lh) {L' : List Int} (k : Kp (fun q => tag q = 5) W W') (r : Rv EI 3 tag 5 W' vn L') : Sx W1 tag vF va vb vm vn vf vh W' LF La Lb Lm L' Lf Lh :=
 ⟨s.kps k (by decide), s.F.keep k (by decide), s.a.keep k (by decide), s.b.keep k (by decide), s.m.keep k (by decide), r, s.f.keep k (by decide), s.h.keep k (by decide)⟩
theorem Sx.f' (s : Sx W1 tag vF va vb vm vn vf vh W LF La Lb Lm Ln Lf Lh) {L' : List Tri} (k : Kp (fun q => tag q = 6) W W') (r : Rv Pc.ET 50 tag 6 W' vf L') : Sx W1 tag vF va vb vm vn vf vh W' LF La Lb Lm Ln L' Lh :=
 ⟨s.kps k (by decide), s.F.keep k (by decide), s.a.keep k (by decide), s.b.keep k (by decide), s.m.keep k (by decide), s.n.keep k (by decide), r, s.h.keep k (by decide)⟩
theorem Sx.h' (s : Sx W1 tag vF va vb vm vn vf vh W LF La Lb Lm Ln Lf Lh) {L' : List Tri} (k : Kp (fun q => tag q = 7) W W') (r : Rv Pc.ET 50 tag 7 W' vh L') : Sx W1 tag vF va vb vm vn vf vh W' LF La Lb Lm Ln Lf L' :=
 ⟨s.kps k (by decide), s.F.keep k (by decide), s.a.keep k (by decide), s.b.keep k (by decide), s.m.keep k (by decide), s.n.keep k (by decide), s.f.keep k (by decide), r⟩
end
def Pre {α : Type} (L : List α) (n i : Nat) (x : α) : Prop := L.length = n ∧ ∀ j, j < i → L[j]? = some x
theorem Pre.zero {α : Type} {L : List α} {n : Nat} (h : L.length = n) (x : α) : Pre L n 0 x := ⟨h, fun _ hj => absurd hj (Nat.not_lt_zero _)⟩
theorem Pre.step {α : Type} {L : List α} {n i : Nat} {x : α} (h : Pre L n i x) (hi : i < n) : Pre (L.set i x) n (i + 1) x := by
 refine ⟨by rw [List.length_set]; exact h.1, fun j hj => ?_⟩
 by_cases e : i = j
 ·subst e
  rw [List.getElem?_set_self (by rw [h.1]; exact hi)]
 ·rw [List.getElem?_set_ne e]
  exact h.2 j (by omega)
theorem int_at {w : World} {v : Value} {ts : List Int} (h : Ls EI w v ts) {j : Nat} {x : Int} (hj : ts[j]? = some x) : ∃ b off c, v = .slice (some ⟨b, off, none⟩) ts.length c ∧ b < w.heap.size ∧ w.cell? ⟨b, off + j, none⟩ = some (.int .i64 x) := by
 obtain ⟨b, off, c, hv, hb, hc⟩ := h.get hj
 simp only [show EI.k = 1 from rfl, Nat.mul_one] at hc
 exact ⟨b, off, c, hv, hb, hc 0 _ (by decide) rfl⟩
theorem ls_hold {α : Type} {E : El α} {T : TypeId} {W W' : World} {v : Value} {L : List α} (h : W.ownsRow 0 T E.k v L.length (fl E L)) (hs : W.heap.size ≤ W'.heap.size) (hold : ∀ q, v.ownBlock = some q → ∀ j u, (fl E L)[j]? = some u → W'.cell? ⟨q, j, none⟩ = some u) : Ls E W' v L := by
 rcases h.2 with ⟨hv, h0⟩ | ⟨g, cap, cur, hv, hg, hh, _⟩
 ·exact Or.inl ⟨List.eq_nil_of_length_eq_zero h0, hv⟩
 ·refine Or.inr ⟨g, 0, cap, hv, Nat.lt_of_lt_of_le (Array.getElem?_eq_some_iff.1 hh).1 hs, fun j u hj => ?_⟩
  rw [Nat.zero_add]
  exact hold g (by rw [hv]; rfl) j u hj
theorem Rv.grow {α : Type} {E : El α} {T : TypeId} {tag : Nat → Nat} {j g cap : Nat} {W W' : World} {v : Value} {L : List α} {x : α} (h : Rv E T tag j W v L) (hT : ∀ k, W.heap.size ≤ k → tag k = 0)
    (h1 : W'.ownsRow 0 T E.k (.slice (some ⟨g, 0, none⟩) (L.length + 1) cap) (L.length + 1) (fl E L ++ E.enc x)) (hk : Kp (fun q => v.ownBlock = some q) W W') (hl : v.ownBlock = some g ∨ W.heap.size ≤ g)
    (hold : ∀ q, v.ownBlock = some q → ∀ j u, (fl E L)[j]? = some u → W'.cell? ⟨q, j, none⟩ = some u) :
    Rr E tag j W' v L ∧ Rr E tag j W' (.slice (some ⟨g, 0, none⟩) (L.length + 1) cap) (L ++ [x]) ∧ Kp (fun q => tag q = j) W W' := by
 refine ⟨⟨ls_hold h.own hk.size hold, fun g hg => Or.inl (h.tg g hg)⟩, ⟨owns_ls (owns_re h1 (by simp) (by rw [fl_append, fl_one])), fun g' hg' => ?_⟩, h.kp hk⟩
 have e : g = g' := by simpa [Value.ownBlock] using hg'
 subst e
 rcases hl with hl | hl
 ·exact Or.inl (h.tg g hl)
 ·exact Or.inr (hT g hl)
theorem sx_init {Wk W6 wa wm wf x3 wb wn wh W1 : World} {vF va vb vm vn vf vh : Value} {LF : List Hf.Th} {La Lf : List Tri} {Lm : List Int}
    (B6 : Below Wk.heap.size Wk W6) (oF : W6.ownsRow Wk.heap.size 52 4 vF LF.length (fl EF LF)) (ka : Below W6.heap.size W6 wa) (oa : wa.ownsRow W6.heap.size 39 3 va La.length (fl Pc.ET La))
    (km : Below wa.heap.size wa wm) (om : wm.ownsRow wa.heap.size 3 1 vm Lm.length (fl EI Lm)) (kf : Below wm.heap.size wm wf) (of : wf.ownsRow wm.heap.size 50 3 vf Lf.length (fl Pc.ET Lf))
    (kx : Below wf.heap.size wf x3) (kb : Below x3.heap.size x3 wb) (ob : wb.ownsRow x3.heap.size 39 3 vb La.length (fl Pc.ET La)) (kn : Below wb.heap.size wb wn) (on : wn.ownsRow wb.heap.size 3 1 vn Lm.length (fl EI Lm))
    (kh : Below wn.heap.size wn wh) (oh : wh.ownsRow wn.heap.size 50 3 vh Lf.length (fl Pc.ET Lf)) (kr : Below wh.heap.size wh W1) :
    ∃ tag : Nat → Nat, Sx W1 tag vF va vb vm vn vf vh W1 LF La La Lm Lm Lf Lf ∧ (∀ k, k < Wk.heap.size → tag k = 0) ∧ ∀ k, wh.heap.size ≤ k → tag k = 0 := by
 have s6 := B6.size
 have sa := ka.size
 have sm := km.size
 have sf := kf.size
 have sx := kx.size
 have sb := kb.size
 have sn := kn.size
 have sh := kh.size
 have bh : Below wh.heap.size wh W1 := kr
 have bn : Below wn.heap.size wn W1 := kh.trans (bh.mono sh)
 have bb : Below wb.heap.size wb W1 := kn.trans (bn.mono sn)
 have bx : Below x3.heap.size x3 W1 := kb.trans (bb.mono sb)
 have bf : Below wf.heap.size wf W1 := kx.trans (bx.mono sx)
 have bm : Below wm.heap.size wm W1 := kf.trans (bf.mono sf)
 have ba : Below wa.heap.size wa W1 := km.trans (bm.mono sm)
 have b6 : Below W6.heap.size W6 W1 := ka.trans (ba.mono sa)
 refine ⟨fun k => if k < Wk.heap.size then 0 else if k < W6.heap.size then 1 else if k < wa.heap.size then 2 else if k < wm.heap.size then 4 else if k < wf.heap.size then 6 else if k < x3.heap.size then 0 else if k < wb.heap.size then 3 else if k < wn.heap.size then 5 else if k < wh.heap.size then 7 else 0, ⟨Kp.refl _ _, ⟨owns_base (owns_below oF b6) (Nat.zero_le _), fun g hg => ?_⟩, ⟨owns_base (owns_below oa ba) (Nat.zero_le _), fun g hg => ?_⟩, ⟨owns_base (owns_below ob bb) (Nat.zero_le _), fun g hg => ?_⟩, ⟨owns_base (owns_below om bm) (Nat.zero_le _), fun g hg => ?_⟩, ⟨owns_base (owns_below on bn) (Nat.zero_le _), fun g hg => ?_⟩, ⟨owns_base (owns_below of bf) (Nat.zero_le _), fun g hg => ?_⟩, ⟨owns_base (owns_below oh bh) (Nat.zero_le _), fun g hg => ?_⟩⟩, fun k hk => ?_, fun k hk => ?_⟩
 ·have := oF.lt g hg
  rw [if_neg (by omega), if_pos (by omega)]
 ·have := oa.lt g hg
  rw [if_neg (by omega), if_neg (by omega), if_pos (by omega)]
 ·have := ob.lt g hg
  rw [if_neg (by omega), if_neg (by omega), if_neg (by omega), if_neg (by omega), if_neg (by omega), if_neg (by omega), if_pos (by omega)]
 ·have := om.lt g hg
  rw [if_neg (by omega), if_neg (by omega), if_neg (by omega), if_pos (by omega)]
 ·have := on.lt g hg
  rw [if_neg (by omega), if_neg (by omega), if_neg (by omega), if_neg (by omega), if_neg (by omega), if_neg (by omega), if_neg (by omega), if_pos (by omega)]
 ·have := of.lt g hg
  rw [if_neg (by omega), if_neg (by omega), if_neg (by omega), if_neg (by omega), if_pos (by omega)]
 ·have := oh.lt g hg
  rw [if_neg (by omega), if_neg (by omega), if_neg (by omega), if_neg (by omega), if_neg (by omega), if_neg (by omega), if_neg (by omega), if_neg (by omega), if_pos (by omega)]
 ·simp only
  rw [if_pos hk]
 ·simp only
  rw [if_neg (by omega), if_neg (by omega), if_neg (by omega), if_neg (by omega), if_neg (by omega), if_neg (by omega), if_neg (by omega), if_neg (by omega), if_neg (by omega)]
end Go.Proofs.YtdnnfgabdkkdjaaGreat.Lf

namespace Go.Proofs.YtdnnfgabdkkdjaaGreat.Lf
open Go.RowKit Go.Sort Pt
open Df (hid Gph plN Gok GR NV Edg gof gvc Gcap EI tk_store tk_lt owns_form owns_caps)
attribute [local go_sem ↓] Go.wp_at_zero Go.wp_at_succ
def x77 : Hf.Th := (-77, t0)
set_option maxHeartbeats 8000000 in
set_option maxRecDepth 100000 in
theorem pathsStays_any {M0 M2 : Nat} {nv ev sv : Value} {a : Int} {xs : List NV} {es : List Edg} {l : List Hf.Th} (P Q : Int) (w : World) (hG : GR M0 w nv ev xs es) (hM : M0 ≤ w.heap.size) (hC : Gcap ev xs) (hP : Gpt (gof a xs es)) (hs : Df.Lz EF M2 w sv l) (hl : l.length ≤ 1048576) : Calls Tryz.prog 7 #[.agg #[.int .i64 a, nv, ev, .int .i64 P, .int .i64 Q, sv]] w fun e w' => e = .returned (.bool true) ∧ Below w.heap.size w w' := by
 have hmx : Tryz.prog.follows .mixedOrders = true := by kernel_rfl
 obtain ⟨ps, cs, rfl⟩ := hs.form
 obtain ⟨nl, hnl⟩ : ∃ n, n = l.length := ⟨_, rfl⟩
 rw [← hnl] at hl hs ⊢
 obtain ⟨xb, hxb⟩ : ∃ b, b = w.heap.size := ⟨_, rfl⟩
 obtain ⟨W0, hW0⟩ : ∃ W, W = w.alloc (.cells #[.int .i64 a, nv, ev, .int .i64 P, .int .i64 Q, .slice ps nl cs] 67) := ⟨_, rfl⟩
 have P0 : Hid (Below w.heap.size w W0 ∧ W0.heap[xb]? = some (.cells #[.int .i64 a, nv, ev, .int .i64 P, .int .i64 Q, .slice ps nl cs] 67 (0, 0)) ∧ Df.Lz EF M2 W0 (.slice ps nl cs) l) := by
  rw [hW0, hxb]
  exact ⟨((Gr.refl w).alloc _).below, heap_new' _ _, hs.below ((Gr.refl w).alloc _).below⟩
 have hbo := both_any (a := a) W0 (hG.below P0.out.1) (Nat.le_trans hM P0.out.1.size) hC hP
 have HW0 : Hid (w.alloc (.cells #[.int .i64 a, nv, ev, .int .i64 P, .int .i64 Q, .slice ps nl cs] 67) = W0 ∧ w.heap.size = xb) := ⟨hW0.symm, hxb.symm⟩
 have c0 := (tk_store P0.out.2.1).1
 have l0 := tk_lt P0.out.2.1
 have HNL := hid hnl
 clear hG hM hC hP hs hW0 hxb hnl
 obtain ⟨g, hg⟩ : ∃ g, g = gof a xs es := ⟨_, rfl⟩
 rw [← hg] at hbo
 clear hg
 go_enter Tryz.func7, Tryz.ntmps7
 go_upto_region 1 with fail
 rw [HW0.out.1, HW0.out.2]
 clear HW0
 go_wp2_with fail
 refine hbo.mono ?_
 clear hbo c0 l0
 rintro r w1 ⟨hb1, hr⟩
 have HB1 := hid hb1
 clear hb1
 rcases hr with rfl | ⟨tb, rb, R, hok, hres, rfl, htp, htr⟩
 ·go_wp2_with fail
  refine (known_any w1).mono ?_
  rintro r w2 ⟨rfl, H2⟩
  go_wp2
  go_ret
  exact ⟨rfl, P0.out.1.trans ((HB1.out.trans (H2.out.mono HB1.out.size)).mono P0.out.1.size)⟩
 ·have HR := hid (bt_len hres)
  have hn := Df.plN_le hok
  have HT := hid htp
  have HTR := hid htr
  clear hres htp htr hok
  generalize plN g.nodes = n at *
  go_wp2_with fail
  refine (known_any w1).mono ?_
  rintro r Wk ⟨rfl, H2⟩
  have HL : Hid ((64 * l.length + 1) * 24 ≤ 140737488355328) := by
   show _ ≤ _
   rw [← HNL.out]
   omega
  have HH : Hid (∀ W, Below Wk.heap.size Wk W → Hw w1.heap.size M2 tb rb n R (.slice ps nl cs) l W) := fun W hb => by
   have h1 := H2.out.trans (hb.mono H2.out.size)
   have h2 := HB1.out.trans (h1.mono HB1.out.size)
   exact ⟨HT.out.keep h1, HTR.out.keep h1, P0.out.2.2.below h2, h1.size⟩
  have HA : Hid (∀ W, Below Wk.heap.size Wk W → W.heap[xb]? = some (.cells #[.int .i64 a, nv, ev, .int .i64 P, .int .i64 Q, .slice ps nl cs] 67 (0, 0))) := fun W hb => by
   have h1 := H2.out.trans (hb.mono H2.out.size)
   have h2 := HB1.out.trans (h1.mono HB1.out.size)
   exact (h2.block _ (tk_lt P0.out.2.1)).trans P0.out.2.1
  have HBk : Hid (Below w.heap.size w Wk) := P0.out.1.trans ((HB1.out.trans (H2.out.mono HB1.out.size)).mono P0.out.1.size)
  have HMK : Hid (w1.heap.size ≤ Wk.heap.size) := H2.out.size
  clear H2 HT HTR HB1 P0
  go_upto_region 6 with fail
  have hG := (Gr.refl Wk).alloc (.cells #[] 52)
  have HZ0 := hid (HH.out _ hG.below).2.2.1
  have HO0 : Hid ((Wk.alloc (.cells #[] 52)).ownsRow Wk.heap.size 52 4 (.slice (some ⟨Wk.heap.size, 0, none⟩) 0 0) 0 []) := World.ownsRow_made Wk #[] 0 (Nat.le_refl _) (by unfold maxLen; omega) rfl
  have HNZ : Hid ((0 + l.length) * 32 ≤ 140737488355328 ∧ 0 + l.length ≤ maxLen ∧ (nl + 1) * 32 ≤ 140737488355328 ∧ nl + 1 ≤ maxLen) := by
   show _ ∧ _ ∧ _ ∧ _
   rw [← HNL.out]
   unfold maxLen
   omega
  have c0 := (tk_store (HA.out Wk (Below.refl _ _))).1
  have l0 := tk_lt (HA.out Wk (Below.refl _ _))
  go_wp2_with (at_builtin; refine Df.wpAppZ EF Tryz.underlying49 infoSt rfl (by decide) rfl _ _ rfl Wk.heap.size (.slice (some ⟨Wk.heap.size, 0, none⟩) 0 0) 0 [] rfl HO0.out M2 _ l rfl HZ0.out HNZ.out.1 HNZ.out.2.1 (by simp) ?_)
  intro v1 w3 h1 g1
  have HO1 : Hid (w3.ownsRow Wk.heap.size 52 4 v1 nl (fl EF l)) := owns_re h1.out (by rw [HNL.out]; try simp) (by simp)
  have hK3 := Kp.grownBy (S := fun k => k = Wk.heap.size) g1.out (fun k e => by simp [Value.ownBlock] at e; exact e.symm)
  have HB3 : Hid (Below Wk.heap.size Wk w3) := hG.below.trans (hK3.below hG.size (fun k e => by rw [e]; exact Nat.le_refl _))
  have hb3 : Wk.heap.size ≤ w3.heap.size := HB3.out.size
  obtain ⟨q, s, c, rfl⟩ : ∃ q s c, v1 = .slice q s c := by
   rcases HO1.out.2 with ⟨h0, _⟩ | ⟨_, _, _, hv, _⟩
   ·exact ⟨_, _, _, h0⟩
   ·exact ⟨_, _, _, hv⟩
  clear h1 g1 hK3 hG HZ0 HO0 c0 l0
  go_wp2_with (at_builtin; refine wpApp1 EF Tryz.underlying49 infoSt rfl (by decide) rfl _ _ rfl Wk.heap.size (.slice q s c) nl _ rfl HO1.out x77 (by first | rfl | (go_simp; done)) HNZ.out.2.2.1 HNZ.out.2.2.2 hb3 _ rfl _ ?_)
  intro gF cF W6 h4 g4 _
  have hK4 := Kp.grownBy (S := fun k => (Value.slice q s c).ownBlock = some k) g4 (fun _ h => h)
  have B6 : Below Wk.heap.size Wk W6 := HB3.out.trans (hK4.below HB3.out.size (fun k e => (HO1.out.lt k e).1))
  have HF : Hid (W6.ownsRow Wk.heap.size 52 4 (.slice (some ⟨gF, 0, none⟩) (nl + 1) cF) (nl + 1) (fl EF (l ++ [x77]))) := owns_re h4 rfl (by rw [fl_append, fl_one])
  have HLF : Hid (∀ W, Below W6.heap.size W6 W → Df.Lz EF W6.heap.size W (.slice (some ⟨gF, 0, none⟩) nl cF) l) := fun W hb => by
   have h1 := owns_lsl HF.out (by rw [List.length_append, List.length_singleton, HNL.out])
   have h2 := h1.cut (k := nl) (by rw [List.length_append, HNL.out]; omega) cF
   rw [List.take_left' HNL.out.symm] at h2
   exact Or.inl ⟨h2.below hb, fun k hk => (HF.out.lt k (by simpa [Value.ownBlock] using hk)).2⟩
  have hcF := (owns_cap HF.out).1
  have hc1 : (nl : Int) ≤ (cF : Int) := by omega
  have hc2 : (0 : Int) ≤ (nl : Int) := by omega
  have c0 := (tk_store (HA.out W6 B6)).1
  have l0 := tk_lt (HA.out W6 B6)
  clear h4 g4 hK4 HO1 HB3 hb3 HNZ
  go_upto_region 8 with fail
  clear c0 l0 hc1 hc2 hcF
  have B6r : Below W6.heap.size W6 W6 := Below.refl _ _
  have BD8 : Below W6.heap.size W6 W6.drew := B6r.trans ((Gr.refl W6).drew.below.mono B6r.size)
  refine wp_regionD (S := (fun W : World => Below W6.heap.size W6 W)) (D := []) hmx ?_
  refine' wpAnyD_take (i := 0) (oi := ⟨some 58, .move (.tmp 3), 26, "law.go:141", #[], none⟩) (v := _) rfl (by kernel_rfl) (by kernel_rfl) (by kernel_rfl) (fun _ _ _ h => h) (by kernel_rfl) (Or.inl ⟨by rfl, ?hy1⟩) BD8 ?rest1
  case hy1 => (intro W hSw; have c0 := (tk_store (HA.out W (B6.trans (hSw.mono B6.size)))).1; have l0 := tk_lt (HA.out W (B6.trans (hSw.mono B6.size))); go_simp; try (with_reducible rfl))
  try simp only [Act.put, List.setIfInBounds_toArray, List.set_cons_zero, List.set_cons_succ]
  refine' wpAnyD_take (i := 1) (oi := ⟨some 59, .fieldAddr 67 (.tmp 1) 1, 0, "law.go:141", #[], none⟩) (v := _) rfl (by kernel_rfl) (by kernel_rfl) (by kernel_rfl) (fun _ _ _ h => h) (by kernel_rfl) (Or.inl ⟨by rfl, ?hy2⟩) BD8 ?rest2
  case hy2 => (intro W hSw; have c0 := (tk_store (HA.out W (B6.trans (hSw.mono B6.size)))).1; have l0 := tk_lt (HA.out W (B6.trans (hSw.mono B6.size))); go_simp; try (with_reducible rfl))
  try simp only [Act.put, List.setIfInBounds_toArray, List.set_cons_zero, List.set_cons_succ]
  refine' wpAnyD_take (i := 2) (oi := ⟨some 60, .load 3 (.tmp 59), 3, "law.go:141", #[⟨1, .data⟩], none⟩) (v := _) rfl (by kernel_rfl) (by kernel_rfl) (by kernel_rfl) (fun _ _ _ h => h) (by kernel_rfl) (Or.inl ⟨by rfl, ?hy3⟩) BD8 ?rest3
  case hy3 => (intro W hSw; have c0 := (tk_store (HA.out W (B6.trans (hSw.mono B6.size)))).1; have l0 := tk_lt (HA.out W (B6.trans (hSw.mono B6.size))); go_simp; try (with_reducible rfl))
  try simp only [Act.put, List.setIfInBounds_toArray, List.set_cons_zero, List.set_cons_succ]
  refine' wpAnyD_take (i := 3) (oi := ⟨some 61, .fieldAddr 67 (.tmp 1) 2, 0, "law.go:141", #[], none⟩) (v := _) rfl (by kernel_rfl) (by kernel_rfl) (by kernel_rfl) (fun _ _ _ h => h) (by kernel_rfl) (Or.inl ⟨by rfl, ?hy4⟩) BD8 ?rest4
  case hy4 => (intro W hSw; have c0 := (tk_store (HA.out W (B6.trans (hSw.mono B6.size)))).1; have l0 := tk_lt (HA.out W (B6.trans (hSw.mono B6.size))); go_simp; try (with_reducible rfl))
  try simp only [Act.put, List.setIfInBounds_toArray, List.set_cons_zero, List.set_cons_succ]
  refine' wpAnyD_take (i := 4) (oi := ⟨some 62, .load 3 (.tmp 61), 3, "law.go:141", #[⟨3, .data⟩], none⟩) (v := _) rfl (by kernel_rfl) (by kernel_rfl) (by kernel_rfl) (fun _ _ _ h => h) (by kernel_rfl) (Or.inl ⟨by rfl, ?hy5⟩) BD8 ?rest5
  case hy5 => (intro W hSw; have c0 := (tk_store (HA.out W (B6.trans (hSw.mono B6.size)))).1; have l0 := tk_lt (HA.out W (B6.trans (hSw.mono B6.size))); go_simp; try (with_reducible rfl))
  try simp only [Act.put, List.setIfInBounds_toArray, List.set_cons_zero, List.set_cons_succ]
  refine' wpAnyD_take (i := 6) (oi := ⟨some 64, .move (.tmp 3), 26, "law.go:141", #[], none⟩) (v := _) rfl (by kernel_rfl) (by kernel_rfl) (by kernel_rfl) (fun _ _ _ h => h) (by kernel_rfl) (Or.inl ⟨by rfl, ?hy6⟩) BD8 ?rest6
  case hy6 => (intro W hSw; have c0 := (tk_store (HA.out W (B6.trans (hSw.mono B6.size)))).1; have l0 := tk_lt (HA.out W (B6.trans (hSw.mono B6.size))); go_simp; try (with_reducible rfl))
  try simp only [Act.put, List.setIfInBounds_toArray, List.set_cons_zero, List.set_cons_succ]
  refine' wpAnyD_take (i := 7) (oi := ⟨some 65, .fieldAddr 67 (.tmp 1) 1, 0, "law.go:141", #[], none⟩) (v := _) rfl (by kernel_rfl) (by kernel_rfl) (by kernel_rfl) (fun _ _ _ h => h) (by kernel_rfl) (Or.inl ⟨by rfl, ?hy7⟩) BD8 ?rest7
  case hy7 => (intro W hSw; have c0 := (tk_store (HA.out W (B6.trans (hSw.mono B6.size)))).1; have l0 := tk_lt (HA.out W (B6.trans (hSw.mono B6.size))); go_simp; try (with_reducible rfl))
  try simp only [Act.put, List.setIfInBounds_toArray, List.set_cons_zero, List.set_cons_succ]
  refine' wpAnyD_take (i := 8) (oi := ⟨some 66, .load 3 (.tmp 65), 3, "law.go:141", #[⟨7, .data⟩], none⟩) (v := _) rfl (by kernel_rfl) (by kernel_rfl) (by kernel_rfl) (fun _ _ _ h => h) (by kernel_rfl) (Or.inl ⟨by rfl, ?hy8⟩) BD8 ?rest8
  case hy8 => (intro W hSw; have c0 := (tk_store (HA.out W (B6.trans (hSw.mono B6.size)))).1; have l0 := tk_lt (HA.out W (B6.trans (hSw.mono B6.size))); go_simp; try (with_reducible rfl))
  try simp only [Act.put, List.setIfInBounds_toArray, List.set_cons_zero, List.set_cons_succ]
  refine wpAnyD_one (i := 5) (o := ⟨some 63, .call ⟨.value (.func 12), #[.tmp 58, .tmp 60, .tmp 62], #[26, 3, 3]⟩, 35, "law.go:141", #[⟨0, .data⟩, ⟨2, .data⟩, ⟨4, .data⟩], none⟩) (by kernel_rfl) rfl (fun K hK => ?_)
  go_simp
  refine (least_any P Q _ (Or.inr ⟨tb, rfl, (HH.out _ (B6.trans (BD8.mono B6.size))).1⟩) (HR.out P Q)).mono ?_
  rintro e wa ⟨vwa, rfl, owa, kwa⟩
  have Bwa : Below W6.heap.size W6 wa := BD8.trans (kwa.mono BD8.size)
  go_wp2_with fail
  refine hK.out _ _ (fun hD => Bwa) ?_
  clear hK K
  try simp only [Act.put, List.setIfInBounds_toArray, List.set_cons_zero, List.set_cons_succ]
  refine wpAnyD_one (i := 9) (o := ⟨some 67, .call ⟨.value (.func 24), #[.tmp 64, .tmp 66], #[26, 3]⟩, 59, "law.go:141", #[⟨6, .data⟩, ⟨8, .data⟩, ⟨5, .chain⟩], none⟩) (by kernel_rfl) rfl (fun K hK => ?_)
  go_simp
  refine (to_any P _ (Or.inr ⟨tb, rfl, (HH.out _ (B6.trans (Bwa.mono B6.size))).1⟩) (HH.out _ (B6.trans (Bwa.mono B6.size))).2.2.2 hn).mono ?_
  rintro e wm ⟨vwm, rfl, owm, kwm⟩
  have Bwm : Below W6.heap.size W6 wm := Bwa.trans (kwm.mono Bwa.size)
  go_wp2_with fail
  refine hK.out _ _ (fun hD => Bwm) ?_
  clear hK K
  try simp only [Act.put, List.setIfInBounds_toArray, List.set_cons_zero, List.set_cons_succ]
  refine wpAnyD_one (i := 10) (o := ⟨some 9, .assign (.tmp 63), 35, "law.go:141", #[⟨5, .data⟩, ⟨9, .chain⟩, ⟨0, .phase⟩, ⟨1, .phase⟩, ⟨2, .phase⟩, ⟨3, .phase⟩, ⟨4, .phase⟩, ⟨5, .phase⟩, ⟨6, .textOnly .lateStores⟩, ⟨7, .textOnly .lateStores⟩, ⟨8, .textOnly .lateStores⟩, ⟨9, .textOnly .lateStoresUnsure⟩], none⟩) (by kernel_rfl) rfl (fun K hK => ?_)
  go_simp
  refine hK.out _ _ (fun hD => Bwm) ?_
  clear hK K
  try simp only [Act.put, List.setIfInBounds_toArray, List.set_cons_zero, List.set_cons_succ]
  refine wpAnyD_one (i := 11) (o := ⟨some 10, .assign (.tmp 67), 59, "law.go:141", #[⟨9, .data⟩, ⟨10, .chain⟩, ⟨0, .phase⟩, ⟨1, .phase⟩, ⟨2, .phase⟩, ⟨3, .phase⟩, ⟨4, .phase⟩, ⟨5, .phase⟩, ⟨6, .phase⟩, ⟨7, .phase⟩, ⟨8, .phase⟩, ⟨9, .phase⟩, ⟨10, .phase⟩], none⟩) (by kernel_rfl) rfl (fun K hK => ?_)
  go_simp
  refine hK.out _ _ (fun hD => Bwm) ?_
  clear hK K
  try simp only [Act.put, List.setIfInBounds_toArray, List.set_cons_zero, List.set_cons_succ]
  refine wpAnyD_done (by kernel_rfl) ?_ _
  have c0 := (tk_store (HA.out wm (B6.trans (Bwm.mono B6.size)))).1
  have l0 := tk_lt (HA.out wm (B6.trans (Bwm.mono B6.size)))
  go_wp2_with fail
  refine (front_any Q _ (Or.inr ⟨tb, rfl, (HH.out _ (B6.trans (Bwm.mono B6.size))).1⟩) (HH.out _ (B6.trans (Bwm.mono B6.size))).2.2.2 HR.out (HLF.out _ Bwm) HL.out).mono ?_
  rintro e wf ⟨vwf, rfl, owf, kwf⟩
  have Bwf : Below W6.heap.size W6 wf := Bwm.trans (kwf.mono Bwm.size)
  clear c0 l0
  have c0 := (tk_store (HA.out wf (B6.trans (Bwf.mono B6.size)))).1
  have l0 := tk_lt (HA.out wf (B6.trans (Bwf.mono B6.size)))
  go_wp2_with fail
  refine (least_any Q P _ (Or.inr ⟨tb, rfl, (HH.out _ (B6.trans (Bwf.mono B6.size))).1⟩) (HR.out Q P)).mono ?_
  rintro e x1 ⟨vx1, rfl, ox1, kx1⟩
  have Bx1 : Below W6.heap.size W6 x1 := Bwf.trans (kx1.mono Bwf.size)
  clear c0 l0
  clear ox1
  have c0 := (tk_store (HA.out x1 (B6.trans (Bx1.mono B6.size)))).1
  have l0 := tk_lt (HA.out x1 (B6.trans (Bx1.mono B6.size)))
  go_wp2_with fail
  refine (to_any Q _ (Or.inr ⟨tb, rfl, (HH.out _ (B6.trans (Bx1.mono B6.size))).1⟩) (HH.out _ (B6.trans (Bx1.mono B6.size))).2.2.2 hn).mono ?_
  rintro e x2 ⟨vx2, rfl, ox2, kx2⟩
  have Bx2 : Below W6.heap.size W6 x2 := Bx1.trans (kx2.mono Bx1.size)
  clear c0 l0
  clear ox2
  have c0 := (tk_store (HA.out x2 (B6.trans (Bx2.mono B6.size)))).1
  have l0 := tk_lt (HA.out x2 (B6.trans (Bx2.mono B6.size)))
  go_wp2_with fail
  refine (front_any P _ (Or.inr ⟨tb, rfl, (HH.out _ (B6.trans (Bx2.mono B6.size))).1⟩) (HH.out _ (B6.trans (Bx2.mono B6.size))).2.2.2 HR.out (HLF.out _ Bx2) HL.out).mono ?_
  rintro e x3 ⟨vx3, rfl, ox3, kx3⟩
  have Bx3 : Below W6.heap.size W6 x3 := Bx2.trans (kx3.mono Bx2.size)
  clear c0 l0
  clear ox3
  go_upto_region 13 with fail
  have BD13 : Below W6.heap.size W6 x3.drew := Bx3.trans ((Gr.refl x3).drew.below.mono Bx3.size)
  refine wp_regionD (S := (fun W : World => Below W6.heap.size W6 W)) (D := []) hmx ?_
  refine' wpAnyD_take (i := 0) (oi := ⟨some 88, .move (.tmp 3), 26, "law.go:146", #[], none⟩) (v := _) rfl (by kernel_rfl) (by kernel_rfl) (by kernel_rfl) (fun _ _ _ h => h) (by kernel_rfl) (Or.inl ⟨by rfl, ?hy13⟩) BD13 ?rest13
  case hy13 => (intro W hSw; have c0 := (tk_store (HA.out W (B6.trans (hSw.mono B6.size)))).1; have l0 := tk_lt (HA.out W (B6.trans (hSw.mono B6.size))); go_simp; try (with_reducible rfl))
  try simp only [Act.put, List.setIfInBounds_toArray, List.set_cons_zero, List.set_cons_succ]
  refine' wpAnyD_take (i := 1) (oi := ⟨some 89, .fieldAddr 67 (.tmp 1) 1, 0, "law.go:146", #[], none⟩) (v := _) rfl (by kernel_rfl) (by kernel_rfl) (by kernel_rfl) (fun _ _ _ h => h) (by kernel_rfl) (Or.inl ⟨by rfl, ?hy14⟩) BD13 ?rest14
  case hy14 => (intro W hSw; have c0 := (tk_store (HA.out W (B6.trans (hSw.mono B6.size)))).1; have l0 := tk_lt (HA.out W (B6.trans (hSw.mono B6.size))); go_simp; try (with_reducible rfl))
  try simp only [Act.put, List.setIfInBounds_toArray, List.set_cons_zero, List.set_cons_succ]
  refine' wpAnyD_take (i := 2) (oi := ⟨some 90, .load 3 (.tmp 89), 3, "law.go:146", #[⟨1, .data⟩], none⟩) (v := _) rfl (by kernel_rfl) (by kernel_rfl) (by kernel_rfl) (fun _ _ _ h => h) (by kernel_rfl) (Or.inl ⟨by rfl, ?hy15⟩) BD13 ?rest15
  case hy15 => (intro W hSw; have c0 := (tk_store (HA.out W (B6.trans (hSw.mono B6.size)))).1; have l0 := tk_lt (HA.out W (B6.trans (hSw.mono B6.size))); go_simp; try (with_reducible rfl))
  try simp only [Act.put, List.setIfInBounds_toArray, List.set_cons_zero, List.set_cons_succ]
  refine' wpAnyD_take (i := 3) (oi := ⟨some 91, .fieldAddr 67 (.tmp 1) 2, 0, "law.go:146", #[], none⟩) (v := _) rfl (by kernel_rfl) (by kernel_rfl) (by kernel_rfl) (fun _ _ _ h => h) (by kernel_rfl) (Or.inl ⟨by rfl, ?hy16⟩) BD13 ?rest16
  case hy16 => (intro W hSw; have c0 := (tk_store (HA.out W (B6.trans (hSw.mono B6.size)))).1; have l0 := tk_lt (HA.out W (B6.trans (hSw.mono B6.size))); go_simp; try (with_reducible rfl))
  try simp only [Act.put, List.setIfInBounds_toArray, List.set_cons_zero, List.set_cons_succ]
  refine' wpAnyD_take (i := 4) (oi := ⟨some 92, .load 3 (.tmp 91), 3, "law.go:146", #[⟨3, .data⟩], none⟩) (v := _) rfl (by kernel_rfl) (by kernel_rfl) (by kernel_rfl) (fun _ _ _ h => h) (by kernel_rfl) (Or.inl ⟨by rfl, ?hy17⟩) BD13 ?rest17
  case hy17 => (intro W hSw; have c0 := (tk_store (HA.out W (B6.trans (hSw.mono B6.size)))).1; have l0 := tk_lt (HA.out W (B6.trans (hSw.mono B6.size))); go_simp; try (with_reducible rfl))
  try simp only [Act.put, List.setIfInBounds_toArray, List.set_cons_zero, List.set_cons_succ]
  refine' wpAnyD_take (i := 6) (oi := ⟨some 94, .move (.tmp 3), 26, "law.go:146", #[], none⟩) (v := _) rfl (by kernel_rfl) (by kernel_rfl) (by kernel_rfl) (fun _ _ _ h => h) (by kernel_rfl) (Or.inl ⟨by rfl, ?hy18⟩) BD13 ?rest18
  case hy18 => (intro W hSw; have c0 := (tk_store (HA.out W (B6.trans (hSw.mono B6.size)))).1; have l0 := tk_lt (HA.out W (B6.trans (hSw.mono B6.size))); go_simp; try (with_reducible rfl))
  try simp only [Act.put, List.setIfInBounds_toArray, List.set_cons_zero, List.set_cons_succ]
  refine' wpAnyD_take (i := 7) (oi := ⟨some 95, .fieldAddr 67 (.tmp 1) 1, 0, "law.go:146", #[], none⟩) (v := _) rfl (by kernel_rfl) (by kernel_rfl) (by kernel_rfl) (fun _ _ _ h => h) (by kernel_rfl) (Or.inl ⟨by rfl, ?hy19⟩) BD13 ?rest19
  case hy19 => (intro W hSw; have c0 := (tk_store (HA.out W (B6.trans (hSw.mono B6.size)))).1; have l0 := tk_lt (HA.out W (B6.trans (hSw.mono B6.size))); go_simp; try (with_reducible rfl))
  try simp only [Act.put, List.setIfInBounds_toArray, List.set_cons_zero, List.set_cons_succ]
  refine' wpAnyD_take (i := 8) (oi := ⟨some 96, .load 3 (.tmp 95), 3, "law.go:146", #[⟨7, .data⟩], none⟩) (v := _) rfl (by kernel_rfl) (by kernel_rfl) (by kernel_rfl) (fun _ _ _ h => h) (by kernel_rfl) (Or.inl ⟨by rfl, ?hy20⟩) BD13 ?rest20
  case hy20 => (intro W hSw; have c0 := (tk_store (HA.out W (B6.trans (hSw.mono B6.size)))).1; have l0 := tk_lt (HA.out W (B6.trans (hSw.mono B6.size))); go_simp; try (with_reducible rfl))
  try simp only [Act.put, List.setIfInBounds_toArray, List.set_cons_zero, List.set_cons_succ]
  refine wpAnyD_one (i := 5) (o := ⟨some 93, .call ⟨.value (.func 12), #[.tmp 88, .tmp 90, .tmp 92], #[26, 3, 3]⟩, 35, "law.go:146", #[⟨0, .data⟩, ⟨2, .data⟩, ⟨4, .data⟩], none⟩) (by kernel_rfl) rfl (fun K hK => ?_)
  go_simp
  refine (least_any P Q _ (Or.inr ⟨tb, rfl, (HH.out _ (B6.trans (BD13.mono B6.size))).1⟩) (HR.out P Q)).mono ?_
  rintro e wb ⟨vwb, rfl, owb, kwb⟩
  have Bwb : Below W6.heap.size W6 wb := BD13.trans (kwb.mono BD13.size)
  go_wp2_with fail
  refine hK.out _ _ (fun hD => Bwb) ?_
  clear hK K
  try simp only [Act.put, List.setIfInBounds_toArray, List.set_cons_zero, List.set_cons_succ]
  refine wpAnyD_one (i := 9) (o := ⟨some 97, .call ⟨.value (.func 24), #[.tmp 94, .tmp 96], #[26, 3]⟩, 59, "law.go:146", #[⟨6, .data⟩, ⟨8, .data⟩, ⟨5, .chain⟩], none⟩) (by kernel_rfl) rfl (fun K hK => ?_)
  go_simp
  refine (to_any P _ (Or.inr ⟨tb, rfl, (HH.out _ (B6.trans (Bwb.mono B6.size))).1⟩) (HH.out _ (B6.trans (Bwb.mono B6.size))).2.2.2 hn).mono ?_
  rintro e wn ⟨vwn, rfl, own, kwn⟩
  have Bwn : Below W6.heap.size W6 wn := Bwb.trans (kwn.mono Bwb.size)
  go_wp2_with fail
  refine hK.out _ _ (fun hD => Bwn) ?_
  clear hK K
  try simp only [Act.put, List.setIfInBounds_toArray, List.set_cons_zero, List.set_cons_succ]
  refine wpAnyD_one (i := 10) (o := ⟨some 12, .assign (.tmp 93), 35, "law.go:146", #[⟨5, .data⟩, ⟨9, .chain⟩, ⟨0, .phase⟩, ⟨1, .phase⟩, ⟨2, .phase⟩, ⟨3, .phase⟩, ⟨4, .phase⟩, ⟨5, .phase⟩, ⟨6, .textOnly .lateStores⟩, ⟨7, .textOnly .lateStores⟩, ⟨8, .textOnly .lateStores⟩, ⟨9, .textOnly .lateStoresUnsure⟩], none⟩) (by kernel_rfl) rfl (fun K hK => ?_)
  go_simp
  refine hK.out _ _ (fun hD => Bwn) ?_
  clear hK K
  try simp only [Act.put, List.setIfInBounds_toArray, List.set_cons_zero, List.set_cons_succ]
  refine wpAnyD_one (i := 11) (o := ⟨some 13, .assign (.tmp 97), 59, "law.go:146", #[⟨9, .data⟩, ⟨10, .chain⟩, ⟨0, .phase⟩, ⟨1, .phase⟩, ⟨2, .phase⟩, ⟨3, .phase⟩, ⟨4, .phase⟩, ⟨5, .phase⟩, ⟨6, .phase⟩, ⟨7, .phase⟩, ⟨8, .phase⟩, ⟨9, .phase⟩, ⟨10, .phase⟩], none⟩) (by kernel_rfl) rfl (fun K hK => ?_)
  go_simp
  refine hK.out _ _ (fun hD => Bwn) ?_
  clear hK K
  try simp only [Act.put, List.setIfInBounds_toArray, List.set_cons_zero, List.set_cons_succ]
  refine wpAnyD_done (by kernel_rfl) ?_ _
  have c0 := (tk_store (HA.out wn (B6.trans (Bwn.mono B6.size)))).1
  have l0 := tk_lt (HA.out wn (B6.trans (Bwn.mono B6.size)))
  go_wp2_with fail
  refine (front_any Q _ (Or.inr ⟨tb, rfl, (HH.out _ (B6.trans (Bwn.mono B6.size))).1⟩) (HH.out _ (B6.trans (Bwn.mono B6.size))).2.2.2 HR.out (HLF.out _ Bwn) HL.out).mono ?_
  rintro e wh ⟨vwh, rfl, owh, kwh⟩
  have Bwh : Below W6.heap.size W6 wh := Bwn.trans (kwh.mono Bwn.size)
  clear c0 l0
  go_upto_region 15 with fail
  have BD15 : Below W6.heap.size W6 wh.drew := Bwh.trans ((Gr.refl wh).drew.below.mono Bwh.size)
  refine wp_regionD (S := (fun W : World => Below W6.heap.size W6 W)) (D := []) hmx ?_
  refine' wpAnyD_take (i := 0) (oi := ⟨some 103, .move (.tmp 4), 27, "law.go:148", #[], none⟩) (v := _) rfl (by kernel_rfl) (by kernel_rfl) (by kernel_rfl) (fun _ _ _ h => h) (by kernel_rfl) (Or.inl ⟨by rfl, ?hy25⟩) BD15 ?rest25
  case hy25 => (intro W hSw; have c0 := (tk_store (HA.out W (B6.trans (hSw.mono B6.size)))).1; have l0 := tk_lt (HA.out W (B6.trans (hSw.mono B6.size))); go_simp; try (with_reducible rfl))
  try simp only [Act.put, List.setIfInBounds_toArray, List.set_cons_zero, List.set_cons_succ]
  refine' wpAnyD_take (i := 1) (oi := ⟨some 104, .fieldAddr 67 (.tmp 1) 1, 0, "law.go:148", #[], none⟩) (v := _) rfl (by kernel_rfl) (by kernel_rfl) (by kernel_rfl) (fun _ _ _ h => h) (by kernel_rfl) (Or.inl ⟨by rfl, ?hy26⟩) BD15 ?rest26
  case hy26 => (intro W hSw; have c0 := (tk_store (HA.out W (B6.trans (hSw.mono B6.size)))).1; have l0 := tk_lt (HA.out W (B6.trans (hSw.mono B6.size))); go_simp; try (with_reducible rfl))
  try simp only [Act.put, List.setIfInBounds_toArray, List.set_cons_zero, List.set_cons_succ]
  refine' wpAnyD_take (i := 2) (oi := ⟨some 105, .load 3 (.tmp 104), 3, "law.go:148", #[⟨1, .data⟩], none⟩) (v := _) rfl (by kernel_rfl) (by kernel_rfl) (by kernel_rfl) (fun _ _ _ h => h) (by kernel_rfl) (Or.inl ⟨by rfl, ?hy27⟩) BD15 ?rest27
  case hy27 => (intro W hSw; have c0 := (tk_store (HA.out W (B6.trans (hSw.mono B6.size)))).1; have l0 := tk_lt (HA.out W (B6.trans (hSw.mono B6.size))); go_simp; try (with_reducible rfl))
  try simp only [Act.put, List.setIfInBounds_toArray, List.set_cons_zero, List.set_cons_succ]
  refine' wpAnyD_take (i := 3) (oi := ⟨some 106, .fieldAddr 67 (.tmp 1) 2, 0, "law.go:148", #[], none⟩) (v := _) rfl (by kernel_rfl) (by kernel_rfl) (by kernel_rfl) (fun _ _ _ h => h) (by kernel_rfl) (Or.inl ⟨by rfl, ?hy28⟩) BD15 ?rest28
  case hy28 => (intro W hSw; have c0 := (tk_store (HA.out W (B6.trans (hSw.mono B6.size)))).1; have l0 := tk_lt (HA.out W (B6.trans (hSw.mono B6.size))); go_simp; try (with_reducible rfl))
  try simp only [Act.put, List.setIfInBounds_toArray, List.set_cons_zero, List.set_cons_succ]
  refine' wpAnyD_take (i := 4) (oi := ⟨some 107, .load 3 (.tmp 106), 3, "law.go:148", #[⟨3, .data⟩], none⟩) (v := _) rfl (by kernel_rfl) (by kernel_rfl) (by kernel_rfl) (fun _ _ _ h => h) (by kernel_rfl) (Or.inl ⟨by rfl, ?hy29⟩) BD15 ?rest29
  case hy29 => (intro W hSw; have c0 := (tk_store (HA.out W (B6.trans (hSw.mono B6.size)))).1; have l0 := tk_lt (HA.out W (B6.trans (hSw.mono B6.size))); go_simp; try (with_reducible rfl))
  try simp only [Act.put, List.setIfInBounds_toArray, List.set_cons_zero, List.set_cons_succ]
  refine' wpAnyD_take (i := 6) (oi := ⟨some 109, .move (.tmp 4), 27, "law.go:148", #[], none⟩) (v := _) rfl (by kernel_rfl) (by kernel_rfl) (by kernel_rfl) (fun _ _ _ h => h) (by kernel_rfl) (Or.inl ⟨by rfl, ?hy30⟩) BD15 ?rest30
  case hy30 => (intro W hSw; have c0 := (tk_store (HA.out W (B6.trans (hSw.mono B6.size)))).1; have l0 := tk_lt (HA.out W (B6.trans (hSw.mono B6.size))); go_simp; try (with_reducible rfl))
  try simp only [Act.put, List.setIfInBounds_toArray, List.set_cons_zero, List.set_cons_succ]
  refine' wpAnyD_take (i := 7) (oi := ⟨some 110, .fieldAddr 67 (.tmp 1) 1, 0, "law.go:148", #[], none⟩) (v := _) rfl (by kernel_rfl) (by kernel_rfl) (by kernel_rfl) (fun _ _ _ h => h) (by kernel_rfl) (Or.inl ⟨by rfl, ?hy31⟩) BD15 ?rest31
  case hy31 => (intro W hSw; have c0 := (tk_store (HA.out W (B6.trans (hSw.mono B6.size)))).1; have l0 := tk_lt (HA.out W (B6.trans (hSw.mono B6.size))); go_simp; try (with_reducible rfl))
  try simp only [Act.put, List.setIfInBounds_toArray, List.set_cons_zero, List.set_cons_succ]
  refine' wpAnyD_take (i := 8) (oi := ⟨some 111, .load 3 (.tmp 110), 3, "law.go:148", #[⟨7, .data⟩], none⟩) (v := _) rfl (by kernel_rfl) (by kernel_rfl) (by kernel_rfl) (fun _ _ _ h => h) (by kernel_rfl) (Or.inl ⟨by rfl, ?hy32⟩) BD15 ?rest32
  case hy32 => (intro W hSw; have c0 := (tk_store (HA.out W (B6.trans (hSw.mono B6.size)))).1; have l0 := tk_lt (HA.out W (B6.trans (hSw.mono B6.size))); go_simp; try (with_reducible rfl))
  try simp only [Act.put, List.setIfInBounds_toArray, List.set_cons_zero, List.set_cons_succ]
  refine wpAnyD_one (i := 5) (o := ⟨some 108, .call ⟨.value (.func 25), #[.tmp 103, .tmp 105, .tmp 107], #[27, 3, 3]⟩, 35, "law.go:148", #[⟨0, .data⟩, ⟨2, .data⟩, ⟨4, .data⟩], none⟩) (by kernel_rfl) rfl (fun K hK => ?_)
  go_simp
  refine (rleast_any P Q _ (HH.out _ (B6.trans (BD15.mono B6.size))).2.1).mono ?_
  rintro e y15 ⟨pW, cW, rfl, rfl, hLW⟩
  go_wp2_with fail
  refine hK.out _ _ (fun hD => BD15) ?_
  clear hK K
  try simp only [Act.put, List.setIfInBounds_toArray, List.set_cons_zero, List.set_cons_succ]
  refine wpAnyD_one (i := 9) (o := ⟨some 112, .call ⟨.value (.func 26), #[.tmp 109, .tmp 111], #[27, 3]⟩, 59, "law.go:148", #[⟨6, .data⟩, ⟨8, .data⟩, ⟨5, .chain⟩], none⟩) (by kernel_rfl) rfl (fun K hK => ?_)
  go_simp
  refine (rto_any P _ (HH.out _ (B6.trans (BD15.mono B6.size))).2.1 (HH.out _ (B6.trans (BD15.mono B6.size))).2.2.2 hn).mono ?_
  rintro e wo ⟨vwo, rfl, owo, kwo⟩
  have Bwo : Below W6.heap.size W6 wo := BD15.trans (kwo.mono BD15.size)
  go_wp2_with fail
  refine hK.out _ _ (fun hD => Bwo) ?_
  clear hK K
  try simp only [Act.put, List.setIfInBounds_toArray, List.set_cons_zero, List.set_cons_succ]
  refine wpAnyD_one (i := 10) (o := ⟨some 15, .assign (.tmp 108), 35, "law.go:148", #[⟨5, .data⟩, ⟨9, .chain⟩, ⟨0, .phase⟩, ⟨1, .phase⟩, ⟨2, .phase⟩, ⟨3, .phase⟩, ⟨4, .phase⟩, ⟨5, .phase⟩, ⟨6, .textOnly .lateStores⟩, ⟨7, .textOnly .lateStores⟩, ⟨8, .textOnly .lateStores⟩, ⟨9, .textOnly .lateStoresUnsure⟩], none⟩) (by kernel_rfl) rfl (fun K hK => ?_)
  go_simp
  refine hK.out _ _ (fun hD => Bwo) ?_
  clear hK K
  try simp only [Act.put, List.setIfInBounds_toArray, List.set_cons_zero, List.set_cons_succ]
  refine wpAnyD_one (i := 11) (o := ⟨some 16, .assign (.tmp 112), 59, "law.go:148", #[⟨9, .data⟩, ⟨10, .chain⟩, ⟨0, .phase⟩, ⟨1, .phase⟩, ⟨2, .phase⟩, ⟨3, .phase⟩, ⟨4, .phase⟩, ⟨5, .phase⟩, ⟨6, .phase⟩, ⟨7, .phase⟩, ⟨8, .phase⟩, ⟨9, .phase⟩, ⟨10, .phase⟩], none⟩) (by kernel_rfl) rfl (fun K hK => ?_)
  go_simp
  refine hK.out _ _ (fun hD => Bwo) ?_
  clear hK K
  try simp only [Act.put, List.setIfInBounds_toArray, List.set_cons_zero, List.set_cons_succ]
  refine wpAnyD_done (by kernel_rfl) ?_ _
  have c0 := (tk_store (HA.out wo (B6.trans (Bwo.mono B6.size)))).1
  have l0 := tk_lt (HA.out wo (B6.trans (Bwo.mono B6.size)))
  go_wp2_with fail
  refine (rfrontT_any Q _ (HH.out _ (B6.trans (Bwo.mono B6.size))).2.1 (HH.out _ (B6.trans (Bwo.mono B6.size))).2.2.2 HR.out (HH.out _ (B6.trans (Bwo.mono B6.size))).2.2.1 HL.out).mono ?_
  rintro e W1 ⟨vW1, rfl, oW1, kW1⟩
  have BW1 : Below W6.heap.size W6 W1 := Bwo.trans (kW1.mono Bwo.size)
  clear c0 l0
  have BHk : Below Wk.heap.size Wk wh := B6.trans (Bwh.mono B6.size)
  have k16 : Below wh.heap.size wh W1 := (Gr.refl wh).drew.below.trans ((kwo.trans (kW1.mono kwo.size)).mono (Nat.le_refl _))
  obtain ⟨La, hLa⟩ : ∃ x, x = bt n R P Q := ⟨_, rfl⟩
  obtain ⟨Lm, hLm⟩ : ∃ x, x = toL n R P n := ⟨_, rfl⟩
  obtain ⟨Lf, hLf⟩ : ∃ x, x = frt (allT n R Q l) := ⟨_, rfl⟩
  have HLN : Hid (La.length ≤ 64 ∧ Lm.length ≤ 192 ∧ Lf.length ≤ 67108864) := by
   refine ⟨by rw [hLa]; exact HR.out P Q, by rw [hLm]; exact Nat.le_trans (toL_len n R P n) hn, ?_⟩
   rw [hLf]
   have h1 := frt_len (allT n R Q l)
   have h2 := allT_len (q := Q) HR.out l
   have h3 := HNL.out
   omega
  have HLA := hid hLa
  have HLM := hid hLm
  have HLF2 := hid hLf
  rw [← hLa] at owa owb hLW ⊢
  rw [← hLm] at owm own owo
  rw [← hLf] at owf owh oW1
  obtain ⟨tag, hsx, ht0, ht1⟩ := sx_init (W6 := W6) (x3 := x3) B6 (owns_re HF.out (by rw [List.length_append, List.length_singleton, HNL.out]) rfl) ((Gr.refl W6).drew.below.trans (kwa.mono (Nat.le_refl _))) owa kwm owm kwf owf ((kx1.trans (kx2.mono kx1.size)).trans (kx3.mono (Nat.le_trans kx1.size kx2.size))) ((Gr.refl x3).drew.below.trans (kwb.mono (Nat.le_refl _))) owb kwn own kwh owh k16
  have HS := hid hsx
  have HKB : Hid (∀ W, Kp (fun k => tag k ≠ 0) W1 W → Below Wk.heap.size Wk W) := fun W hk => by
   have h1 : Below Wk.heap.size Wk W1 := BHk.trans (k16.mono BHk.size)
   exact h1.trans (hk.below h1.size (fun k hk => Nat.le_of_not_lt (fun h => hk (ht0 k h))))
  have HDO : Hid (∀ W, Kp (fun k => tag k ≠ 0) W1 W → Ls Pc.ET W (.slice pW La.length cW) La ∧ Ls EI W vwo Lm ∧ Ls Pc.ET W vW1 Lf) := fun W hk => by
   refine ⟨hk.ls (hLW.1.below ((kwo.trans (kW1.mono kwo.size)))) (fun g hg e => e (ht0 g ?_)), hk.ls (owns_ls (E := EI) (owns_below owo kW1)) (fun g hg e => e (ht1 g ?_)), hk.ls (owns_ls (E := Pc.ET) oW1) (fun g hg e => e (ht1 g ?_))⟩
   ·exact Nat.lt_of_lt_of_le (hLW.2 g hg) HMK.out
   ·exact (owo.lt g hg).1
   ·exact Nat.le_trans kwo.size (oW1.lt g hg).1
  obtain ⟨pa, ca, hva⟩ := hsx.a.form
  obtain ⟨pb, cb, hvb⟩ := hsx.b.form
  obtain ⟨pm, cm, hvm⟩ := hsx.m.form
  obtain ⟨pn, cn, hvn⟩ := hsx.n.form
  obtain ⟨pf, cf, hvf⟩ := hsx.f.form
  obtain ⟨ph, ch, hvh⟩ := hsx.h.form
  obtain ⟨po, co, hvo⟩ := (HDO.out W1 (Kp.refl _ _)).2.1.form
  obtain ⟨pr, cr, hvr⟩ := (HDO.out W1 (Kp.refl _ _)).2.2.form
  have HT1 : Hid (∀ k, W1.heap.size ≤ k → tag k = 0) := fun k hk => ht1 k (Nat.le_trans k16.size hk)
  clear hsx ht0 ht1 hLa hLm hLf owa owb hLW owm own owo owf owh oW1 BHk k16 kwa kwm kwf kx1 kx2 kx3 kwb kwn kwh kwo kW1 HF
  subst hva hvb hvm hvn hvf hvh hvo hvr
  clear Bwa Bwm Bwf Bx1 Bx2 Bx3 Bwb Bwn Bwh Bwo BD8 BD13 BD15 B6r
  obtain ⟨na, hna⟩ : ∃ x, x = La.length := ⟨_, rfl⟩
  obtain ⟨nm, hnm⟩ : ∃ x, x = Lm.length := ⟨_, rfl⟩
  obtain ⟨nf, hnf⟩ : ∃ x, x = Lf.length := ⟨_, rfl⟩
  rw [← hna, ← hnm, ← hnf] at HLN
  rw [← hna, ← hnm, ← hnf] at HDO
  rw [← hna, ← hnm, ← hnf] at HS
  rw [← hna, ← hnm, ← hnf]
  have HNA := hid hna
  have HNM := hid hnm
  have HNF := hid hnf
  clear hna hnm hnf
  have hna := HLN.out.1
  have hnm := HLN.out.2.1
  have hnf := HLN.out.2.2
  have BW16 := BW1
  have hnl1 : nl < 1048577 := by omega
  go_wp2_with fail
  go_loopw [18] (fun s18 wr => ∃ i : Nat, i ≤ nl ∧ s18 = .int .i64 (i : Nat) ∧ Hid (Below W1.heap.size W1 wr)) (fun s18 _ => nl - (RowKit.intOf s18).toNat)
  case atStart => exact ⟨0, Nat.zero_le _, rfl, Below.refl _ _⟩
  case round =>
   obtain ⟨i, hi, rfl, HI⟩ := hrel
   have BI : Below W6.heap.size W6 wr := BW1.trans (HI.out.mono BW1.size)
   by_cases hlt : i < nl
   ·have hz : (i : Int) < (nl : Int) := by omega
    have hi0 : (0 : Int) ≤ (i : Int) := by omega
    obtain ⟨x, hx⟩ : ∃ x, l[i]? = some x := ⟨l[i]'(by have := HNL.out; omega), by simp⟩
    obtain ⟨b1, o1, q1, e1, l1, y0, y1, y2, y3⟩ := EF_at ((HLF.out wr BI).ls hx) hx
    obtain ⟨b2, o2, q2, e2, l2, z0, z1, z2, z3⟩ := EF_at ((HH.out wr (B6.trans (BI.mono B6.size))).2.2.1.ls hx) hx
    simp only [Value.slice.injEq, Option.some.injEq, Addr.mk.injEq] at e1
    simp only [Value.slice.injEq] at e2
    obtain ⟨⟨rfl, rfl, -⟩, -, rfl⟩ := e1
    obtain ⟨rfl, -, rfl⟩ := e2
    rw [Nat.zero_add] at y0 y1 y2 y3
    have heq := fun W => run_neqTh (s := x) (u := x) (b := true) (by simp) W
    have c0 := (tk_store (HA.out wr (B6.trans (BI.mono B6.size)))).1
    have l0 := tk_lt (HA.out wr (B6.trans (BI.mono B6.size)))
    clear hx BI
    go_wp2_with fail
    go_quiet (fail)
    go_wp2_with fail
    go_roundw
    case rel => exact ⟨i + 1, hlt, by simp, HI.out.trans (((Gr.refl wr).drewN _).below.mono HI.out.size)⟩
    case measure => simp [RowKit.intOf]; omega
   ·have hz : ¬ ((i : Int) < (nl : Int)) := by omega
    have HW2 := hid (HS.out.below HI.out)
    clear HS HI BI hi hlt
    generalize hww : wr = W2 at *
    clear hww
    have hsf := HW2.out.F
    obtain ⟨gg, ccc, e0, e1, e2, e3⟩ := hsf.addr (k := nl) (by rw [List.length_append, List.length_singleton, HNL.out]; omega)
    have hx7 : (l ++ [x77])[nl]? = some x77 := by rw [HNL.out]; simp
    obtain ⟨b1, o1, q1, f1, l1, y0, y1, y2, y3⟩ := EF_at (owns_ls hsf.own) hx7
    simp only [Value.slice.injEq, Option.some.injEq, Addr.mk.injEq] at f1
    obtain ⟨⟨rfl, rfl, -⟩, -, -⟩ := f1
    rw [Nat.zero_add] at y0
    have y7 : W2.cell? ⟨gF, nl * 4, none⟩ = some (.int .i64 (-77)) := y0
    have hi1 : (nl : Int) < ((nl + 1 : Nat) : Int) := by omega
    have hi2 : (0 : Int) ≤ (nl : Int) := by omega
    clear hsf e0 e1 e2 e3 hx7 y0 y1 y2 y3
    obtain ⟨d0, d1, d2⟩ := HDO.out W2 HW2.out.kp
    have HD := hid (And.intro d0 (And.intro d1 d2))
    clear d0 d1 d2
    go_wp2_with fail
    refine (sameP_eq _ (owns_ls (HW2.out.a.own)) (HD.out.1) (by rw [← HNA.out]; omega)).mono ?_
    rintro e y3 ⟨rfl, g3⟩
    have HW3 := hid (HW2.out.below g3.below)
    have HD3 := hid (And.intro (HD.out.1.below g3.below) (And.intro (HD.out.2.1.below g3.below) (HD.out.2.2.below g3.below)))
    clear g3
    go_wp2_with fail
    refine (sameP_eq _ (owns_ls (HW3.out.b.own)) (HD3.out.1) (by rw [← HNA.out]; omega)).mono ?_
    rintro e y4 ⟨rfl, g4⟩
    have HW4 := hid (HW3.out.below g4.below)
    have HD4 := hid (And.intro (HD3.out.1.below g4.below) (And.intro (HD3.out.2.1.below g4.below) (HD3.out.2.2.below g4.below)))
    clear g4
    go_wp2_with fail
    refine (sameI_eq _ (owns_ls (HW4.out.m.own)) (HD4.out.2.1) (by rw [← HNM.out]; omega)).mono ?_
    rintro e y5 ⟨rfl, g5⟩
    have HW5 := hid (HW4.out.below g5.below)
    have HD5 := hid (And.intro (HD4.out.1.below g5.below) (And.intro (HD4.out.2.1.below g5.below) (HD4.out.2.2.below g5.below)))
    clear g5
    go_wp2_with fail
    refine (sameI_eq _ (owns_ls (HW5.out.n.own)) (HD5.out.2.1) (by rw [← HNM.out]; omega)).mono ?_
    rintro e y6 ⟨rfl, g6⟩
    have HW6 := hid (HW5.out.below g6.below)
    have HD6 := hid (And.intro (HD5.out.1.below g6.below) (And.intro (HD5.out.2.1.below g6.below) (HD5.out.2.2.below g6.below)))
    clear g6
    go_wp2_with fail
    refine (sameT_eq _ (owns_ls (HW6.out.f.own)) (HD6.out.2.2) (by rw [← HNF.out]; omega)).mono ?_
    rintro e y7 ⟨rfl, g7⟩
    have HW7 := hid (HW6.out.below g7.below)
    have HD7 := hid (And.intro (HD6.out.1.below g7.below) (And.intro (HD6.out.2.1.below g7.below) (HD6.out.2.2.below g7.below)))
    clear g7
    go_wp2_with fail
    refine (sameT_eq _ (owns_ls (HW7.out.h.own)) (HD7.out.2.2) (by rw [← HNF.out]; omega)).mono ?_
    rintro e y8 ⟨rfl, g8⟩
    have HW8 := hid (HW7.out.below g8.below)
    have HD8 := hid (And.intro (HD7.out.1.below g8.below) (And.intro (HD7.out.2.1.below g8.below) (HD7.out.2.2.below g8.below)))
    clear g8
    have HS8 := hid HW8.out
    clear HW2 HW3 HW4 HW5 HW6 HW7 HW8 HD HD3 HD4 HD5 HD6 HD7 HD8 y7 hi1 hi2 hz l1
    go_wp2_with fail
    go_loopw [19] (fun s19 wr => ∃ i : Nat, i ≤ nl + 1 ∧ s19 = .int .i64 (i : Nat) ∧ Hid (∃ LF, LF.length = nl + 1 ∧ Sx W1 tag (.slice (some ⟨gF, 0, none⟩) (nl + 1) cF) (.slice pa na ca) (.slice pb na cb) (.slice pm nm cm) (.slice pn nm cn) (.slice pf nf cf) (.slice ph nf ch) wr LF La La Lm Lm Lf Lf)) (fun s19 _ => nl + 1 - (RowKit.intOf s19).toNat)
    case atStart => exact ⟨0, Nat.zero_le _, rfl, l ++ [x77], by rw [List.length_append, List.length_singleton, HNL.out], HS8.out⟩
    case round =>
     clear HS8
     obtain ⟨i, hi, rfl, HI⟩ := hrel
     obtain ⟨LF, hlF, hs⟩ := HI.out
     clear HI
     by_cases hlt : i < nl + 1
     ·have hz : (i : Int) < ((nl + 1 : Nat) : Int) := by omega
      have hi0 : (0 : Int) ≤ (i : Int) := by omega
      obtain ⟨g0, c0, e0, _, l0, f0⟩ := hs.F.addr (k := i) (by omega)
      simp only [Value.slice.injEq, Option.some.injEq, Addr.mk.injEq] at e0
      obtain ⟨⟨rfl, -, -⟩, -, rfl⟩ := e0
      obtain ⟨d, hd⟩ : ∃ d, LF[i]? = some d := ⟨LF[i]'(by omega), by simp⟩
      obtain ⟨b1, o1, q1, f1, l1, y0, y1, y2, y3⟩ := EF_at (owns_ls hs.F.own) hd
      simp only [Value.slice.injEq, Option.some.injEq, Addr.mk.injEq] at f1
      obtain ⟨⟨rfl, rfl, -⟩, -, -⟩ := f1
      rw [Nat.zero_add] at y0 y1 y2 y3
      have HS := hid hs
      have HLL := hid hlF
      clear hs hd hlF
      go_wp2_with fail
      have hF := HS.out.F
      rw [← HLL.out] at hF
      obtain ⟨r1, k1⟩ := Rv.setF rfl hF i ((i : Int), t9)
      rw [HLL.out] at r1
      exact ⟨⟨i + 1, by omega, by go_num, LF.set i ((i : Int), t9), by rw [List.length_set, HLL.out], HS.out.F' k1 r1⟩, by simp [RowKit.intOf]; omega⟩
     ·have hz : ¬ (i : Int) < ((nl + 1 : Nat) : Int) := by omega
      have HS9 := hid hs
      clear hs hlF hi hlt
      go_wp2_with fail
      go_loopw [20] (fun sS wr => ∃ i : Nat, i ≤ na ∧ sS = .int .i64 (i : Nat) ∧ Hid (∃ A3 B3, Pre A3 na i t71 ∧ Pre B3 na i t72 ∧ Sx W1 tag (.slice (some ⟨gF, 0, none⟩) (nl + 1) cF) (.slice pa na ca) (.slice pb na cb) (.slice pm nm cm) (.slice pn nm cn) (.slice pf nf cf) (.slice ph nf ch) wr LF A3 B3 Lm Lm Lf Lf)) (fun sS _ => na - (RowKit.intOf sS).toNat)
      case atStart => exact ⟨0, Nat.zero_le _, rfl, La, La, Pre.zero HNA.out.symm _, Pre.zero HNA.out.symm _, HS9.out⟩
      case round =>
       clear HS9
       obtain ⟨i, hi, rfl, HI⟩ := hrel
       obtain ⟨A3, B3, hpa, hpb, hs⟩ := HI.out
       clear HI
       have hla := hpa.1
       have hlb := hpb.1
       by_cases hlt : i < na
       ·have hz : (i : Int) < (na : Int) := by omega
        have hi0 : (0 : Int) ≤ (i : Int) := by omega
        obtain ⟨g1, c1, e1, t1, l1, f1⟩ := hs.a.addr (k := i) (by omega)
        obtain ⟨g2, c2, e2, t2, l2, f2⟩ := hs.b.addr (k := i) (by omega)
        have hne : g1 ≠ g2 := fun e => by rw [e] at t1; omega
        have hne2 : g2 ≠ g1 := fun e => hne e.symm
        simp only [Value.slice.injEq] at e1 e2
        obtain ⟨rfl, -, rfl⟩ := e1
        obtain ⟨rfl, -, rfl⟩ := e2
        obtain ⟨d1, hd1⟩ : ∃ d, A3[i]? = some d := ⟨A3[i]'(by omega), by simp⟩
        obtain ⟨d2, hd2⟩ : ∃ d, B3[i]? = some d := ⟨B3[i]'(by omega), by simp⟩
        obtain ⟨b1, o1, q1, h1, _, y0, y1, y2⟩ := (owns_ls hs.a.own).atP hd1
        obtain ⟨b2, o2, q2, h2, _, z0, z1, z2⟩ := (owns_ls hs.b.own).atP hd2
        simp only [Value.slice.injEq, Option.some.injEq, Addr.mk.injEq] at h1 h2
        obtain ⟨⟨rfl, rfl, -⟩, -, -⟩ := h1
        obtain ⟨⟨rfl, rfl, -⟩, -, -⟩ := h2
        rw [Nat.zero_add] at y0 y1 y2 z0 z1 z2
        clear hd1 hd2
        have HS := hid hs
        have HA1 := hid hpa
        have HB1 := hid hpb
        clear hs hpa hpb hla hlb t1 t2
        go_wp2_with fail
        have hA := HS.out.a
        rw [← HA1.out.1] at hA
        obtain ⟨r1, k1⟩ := Rv.setT hA i t71
        rw [HA1.out.1] at r1
        have s1 := HS.out.a' k1 r1
        have hB := s1.b
        rw [← HB1.out.1] at hB
        obtain ⟨r2, k2⟩ := Rv.setT hB i t72
        rw [HB1.out.1] at r2
        exact ⟨⟨i + 1, by omega, by go_num, _, _, HA1.out.step hlt, HB1.out.step hlt, s1.b' k2 r2⟩, by simp [RowKit.intOf]; omega⟩
       ·have hz : ¬ (i : Int) < (na : Int) := by omega
        have hie : i = na := by omega
        rw [hie] at hpa hpb
        have HSA := hid hs
        have HSAp := hid hpa
        have HSAq := hid hpb
        clear hie
        clear hs hpa hpb hla hlb hi hlt
        go_wp2_with fail
        go_loopw [21] (fun sS wr => ∃ i : Nat, i ≤ nm ∧ sS = .int .i64 (i : Nat) ∧ Hid (∃ A4 B4, Pre A4 nm i (-71) ∧ Pre B4 nm i (-72) ∧ Sx W1 tag (.slice (some ⟨gF, 0, none⟩) (nl + 1) cF) (.slice pa na ca) (.slice pb na cb) (.slice pm nm cm) (.slice pn nm cn) (.slice pf nf cf) (.slice ph nf ch) wr LF A3 B3 A4 B4 Lf Lf)) (fun sS _ => nm - (RowKit.intOf sS).toNat)
        case atStart => exact ⟨0, Nat.zero_le _, rfl, Lm, Lm, Pre.zero HNM.out.symm _, Pre.zero HNM.out.symm _, HSA.out⟩
        case round =>
         clear HSA
         obtain ⟨i, hi, rfl, HI⟩ := hrel
         obtain ⟨A4, B4, hpa, hpb, hs⟩ := HI.out
         clear HI
         have hla := hpa.1
         have hlb := hpb.1
         by_cases hlt : i < nm
         ·have hz : (i : Int) < (nm : Int) := by omega
          have hi0 : (0 : Int) ≤ (i : Int) := by omega
          obtain ⟨g1, c1, e1, t1, l1, f1⟩ := hs.m.addr (k := i) (by omega)
          obtain ⟨g2, c2, e2, t2, l2, f2⟩ := hs.n.addr (k := i) (by omega)
          have hne : g1 ≠ g2 := fun e => by rw [e] at t1; omega
          have hne2 : g2 ≠ g1 := fun e => hne e.symm
          simp only [Value.slice.injEq] at e1 e2
          obtain ⟨rfl, -, rfl⟩ := e1
          obtain ⟨rfl, -, rfl⟩ := e2
          obtain ⟨d1, hd1⟩ : ∃ d, A4[i]? = some d := ⟨A4[i]'(by omega), by simp⟩
          obtain ⟨d2, hd2⟩ : ∃ d, B4[i]? = some d := ⟨B4[i]'(by omega), by simp⟩
          obtain ⟨b1, o1, q1, h1, _, y0⟩ := int_at (owns_ls hs.m.own) hd1
          obtain ⟨b2, o2, q2, h2, _, z0⟩ := int_at (owns_ls hs.n.own) hd2
          simp only [Value.slice.injEq, Option.some.injEq, Addr.mk.injEq] at h1 h2
          obtain ⟨⟨rfl, rfl, -⟩, -, -⟩ := h1
          obtain ⟨⟨rfl, rfl, -⟩, -, -⟩ := h2
          rw [Nat.zero_add] at y0 z0
          clear hd1 hd2
          have HS := hid hs
          have HA1 := hid hpa
          have HB1 := hid hpb
          clear hs hpa hpb hla hlb t1 t2
          go_wp2_with fail
          have hA := HS.out.m
          rw [← HA1.out.1] at hA
          obtain ⟨r1, k1⟩ := Rv.setI hA i (-71)
          rw [HA1.out.1] at r1
          have s1 := HS.out.m' k1 r1
          have hB := s1.n
          rw [← HB1.out.1] at hB
          obtain ⟨r2, k2⟩ := Rv.setI hB i (-72)
          rw [HB1.out.1] at r2
          exact ⟨⟨i + 1, by omega, by go_num, _, _, HA1.out.step hlt, HB1.out.step hlt, s1.n' k2 r2⟩, by simp [RowKit.intOf]; omega⟩
         ·have hz : ¬ (i : Int) < (nm : Int) := by omega
          have hie : i = nm := by omega
          rw [hie] at hpa hpb
          have HSB := hid hs
          have HSBp := hid hpa
          have HSBq := hid hpb
          clear hie
          clear hs hpa hpb hla hlb hi hlt
          go_wp2_with fail
          go_loopw [22] (fun sS wr => ∃ i : Nat, i ≤ nf ∧ sS = .int .i64 (i : Nat) ∧ Hid (∃ A5 B5, Pre A5 nf i t71 ∧ Pre B5 nf i t72 ∧ Sx W1 tag (.slice (some ⟨gF, 0, none⟩) (nl + 1) cF) (.slice pa na ca) (.slice pb na cb) (.slice pm nm cm) (.slice pn nm cn) (.slice pf nf cf) (.slice ph nf ch) wr LF A3 B3 A4 B4 A5 B5)) (fun sS _ => nf - (RowKit.intOf sS).toNat)
          case atStart => exact ⟨0, Nat.zero_le _, rfl, Lf, Lf, Pre.zero HNF.out.symm _, Pre.zero HNF.out.symm _, HSB.out⟩
          case round =>
           clear HSB
           obtain ⟨i, hi, rfl, HI⟩ := hrel
           obtain ⟨A5, B5, hpa, hpb, hs⟩ := HI.out
           clear HI
           have hla := hpa.1
           have hlb := hpb.1
           by_cases hlt : i < nf
           ·have hz : (i : Int) < (nf : Int) := by omega
            have hi0 : (0 : Int) ≤ (i : Int) := by omega
            obtain ⟨g1, c1, e1, t1, l1, f1⟩ := hs.f.addr (k := i) (by omega)
            obtain ⟨g2, c2, e2, t2, l2, f2⟩ := hs.h.addr (k := i) (by omega)
            have hne : g1 ≠ g2 := fun e => by rw [e] at t1; omega
            have hne2 : g2 ≠ g1 := fun e => hne e.symm
            simp only [Value.slice.injEq] at e1 e2
            obtain ⟨rfl, -, rfl⟩ := e1
            obtain ⟨rfl, -, rfl⟩ := e2
            obtain ⟨d1, hd1⟩ : ∃ d, A5[i]? = some d := ⟨A5[i]'(by omega), by simp⟩
            obtain ⟨d2, hd2⟩ : ∃ d, B5[i]? = some d := ⟨B5[i]'(by omega), by simp⟩
            obtain ⟨b1, o1, q1, h1, _, y0, y1, y2⟩ := (owns_ls hs.f.own).atP hd1
            obtain ⟨b2, o2, q2, h2, _, z0, z1, z2⟩ := (owns_ls hs.h.own).atP hd2
            simp only [Value.slice.injEq, Option.some.injEq, Addr.mk.injEq] at h1 h2
            obtain ⟨⟨rfl, rfl, -⟩, -, -⟩ := h1
            obtain ⟨⟨rfl, rfl, -⟩, -, -⟩ := h2
            rw [Nat.zero_add] at y0 y1 y2 z0 z1 z2
            clear hd1 hd2
            have HS := hid hs
            have HA1 := hid hpa
            have HB1 := hid hpb
            clear hs hpa hpb hla hlb t1 t2
            go_wp2_with fail
            have hA := HS.out.f
            rw [← HA1.out.1] at hA
            obtain ⟨r1, k1⟩ := Rv.setT hA i t71
            rw [HA1.out.1] at r1
            have s1 := HS.out.f' k1 r1
            have hB := s1.h
            rw [← HB1.out.1] at hB
            obtain ⟨r2, k2⟩ := Rv.setT hB i t72
            rw [HB1.out.1] at r2
            exact ⟨⟨i + 1, by omega, by go_num, _, _, HA1.out.step hlt, HB1.out.step hlt, s1.h' k2 r2⟩, by simp [RowKit.intOf]; omega⟩
           ·have hz : ¬ (i : Int) < (nf : Int) := by omega
            have hie : i = nf := by omega
            rw [hie] at hpa hpb
            have HSC := hid hs
            have HSCp := hid hpa
            have HSCq := hid hpb
            clear hie
            clear hs hpa hpb hla hlb hi hlt
            go_upto_region 40 with fail
            obtain ⟨W3, hW3⟩ : ∃ W, W = wr := ⟨_, rfl⟩
            have hs := HSC.out
            rw [← hW3] at hs ⊢
            clear hW3 HSC
            have T3 : Hid (∀ k, W3.heap.size ≤ k → tag k = 0) := fun k hk => HT1.out k (Nat.le_trans hs.kp.size hk)
            have K3 := hid hs.kp
            have Ra := hid hs.a
            have Rb := hid hs.b
            have Rm := hid hs.m
            have Rn := hid hs.n
            have Rf := hid hs.f
            have Rh := hid hs.h
            clear hs
            have hown : Hid (W3.ownsRow 0 39 Pc.ET.k (.slice pa na ca) na (fl Pc.ET A3)) := owns_re Ra.out.own HSAp.out.1 rfl
            go_wp2_with (at_builtin; refine wpAppKeep1 Pc.ET Tryz.underlying35 Pc.infoTm rfl (by decide) rfl _ _ rfl (.slice pa na ca) na A3 rfl hown.out t73 (by first | rfl | (go_simp; done)) (by omega) (by unfold maxLen; omega) _ rfl _ ?_)
            intro ga2 ca2 W4 h1 hk hl2 hold
            have hgr := Rv.grow Ra.out T3.out (by rw [HSAp.out.1]; exact h1) hk hl2 hold
            rw [HSAp.out.1] at hgr
            have Sa := hid hgr.1
            have Sa2 := hid hgr.2.1
            have kk := hgr.2.2
            have K4 : Hid (Kp (fun k => tag k ≠ 0) W1 W4) := K3.out.trans kk (fun q _ e => by omega)
            have T4 : Hid (∀ k, W4.heap.size ≤ k → tag k = 0) := fun k hk => T3.out k (Nat.le_trans kk.size hk)
            have Rbx := hid (Rb.out.keep kk (by decide))
            have Rmx := hid (Rm.out.keep kk (by decide))
            have Rnx := hid (Rn.out.keep kk (by decide))
            have Rfx := hid (Rf.out.keep kk (by decide))
            have Rhx := hid (Rh.out.keep kk (by decide))
            clear h1 hk hl2 hold hgr kk hown T3 K3
            have hown : Hid (W4.ownsRow 0 39 Pc.ET.k (.slice pb na cb) na (fl Pc.ET B3)) := owns_re Rbx.out.own HSAq.out.1 rfl
            go_wp2_with (at_builtin; refine wpAppKeep1 Pc.ET Tryz.underlying35 Pc.infoTm rfl (by decide) rfl _ _ rfl (.slice pb na cb) na B3 rfl hown.out t74 (by first | rfl | (go_simp; done)) (by omega) (by unfold maxLen; omega) _ rfl _ ?_)
            intro gb2 cb2 W5 h1 hk hl2 hold
            have hgr := Rv.grow Rbx.out T4.out (by rw [HSAq.out.1]; exact h1) hk hl2 hold
            rw [HSAq.out.1] at hgr
            have Sb := hid hgr.1
            have Sb2 := hid hgr.2.1
            have kk := hgr.2.2
            have K5 : Hid (Kp (fun k => tag k ≠ 0) W1 W5) := K4.out.trans kk (fun q _ e => by omega)
            have T5 : Hid (∀ k, W5.heap.size ≤ k → tag k = 0) := fun k hk => T4.out k (Nat.le_trans kk.size hk)
            have Rmxx := hid (Rmx.out.keep kk (by decide))
            have Rnxx := hid (Rnx.out.keep kk (by decide))
            have Rfxx := hid (Rfx.out.keep kk (by decide))
            have Rhxx := hid (Rhx.out.keep kk (by decide))
            have Sax := hid (Sa.out.keep kk (by decide) (by decide))
            have Sa2x := hid (Sa2.out.keep kk (by decide) (by decide))
            clear h1 hk hl2 hold hgr kk hown T4 K4
            have hown : Hid (W5.ownsRow 0 3 EI.k (.slice pm nm cm) nm (fl EI A4)) := owns_re Rmxx.out.own HSBp.out.1 rfl
            go_wp2_with (at_builtin; refine wpAppKeep1 EI Tryz.underlying59 Df.infoI rfl (by decide) rfl _ _ rfl (.slice pm nm cm) nm A4 rfl hown.out (-73) (by first | rfl | (go_simp; done)) (by omega) (by unfold maxLen; omega) _ rfl _ ?_)
            intro gm2 cm2 W6 h1 hk hl2 hold
            have hgr := Rv.grow Rmxx.out T5.out (by rw [HSBp.out.1]; exact h1) hk hl2 hold
            rw [HSBp.out.1] at hgr
            have Sm := hid hgr.1
            have Sm2 := hid hgr.2.1
            have kk := hgr.2.2
            have K6 : Hid (Kp (fun k => tag k ≠ 0) W1 W6) := K5.out.trans kk (fun q _ e => by omega)
            have T6 : Hid (∀ k, W6.heap.size ≤ k → tag k = 0) := fun k hk => T5.out k (Nat.le_trans kk.size hk)
            have Rnxxx := hid (Rnxx.out.keep kk (by decide))
            have Rfxxx := hid (Rfxx.out.keep kk (by decide))
            have Rhxxx := hid (Rhxx.out.keep kk (by decide))
            have Saxx := hid (Sax.out.keep kk (by decide) (by decide))
            have Sa2xx := hid (Sa2x.out.keep kk (by decide) (by decide))
            have Sbx := hid (Sb.out.keep kk (by decide) (by decide))
            have Sb2x := hid (Sb2.out.keep kk (by decide) (by decide))
            clear h1 hk hl2 hold hgr kk hown T5 K5
            have hown : Hid (W6.ownsRow 0 3 EI.k (.slice pn nm cn) nm (fl EI B4)) := owns_re Rnxxx.out.own HSBq.out.1 rfl
            go_wp2_with (at_builtin; refine wpAppKeep1 EI Tryz.underlying59 Df.infoI rfl (by decide) rfl _ _ rfl (.slice pn nm cn) nm B4 rfl hown.out (-74) (by first | rfl | (go_simp; done)) (by omega) (by unfold maxLen; omega) _ rfl _ ?_)
            intro gn2 cn2 W7 h1 hk hl2 hold
            have hgr := Rv.grow Rnxxx.out T6.out (by rw [HSBq.out.1]; exact h1) hk hl2 hold
            rw [HSBq.out.1] at hgr
            have Sn := hid hgr.1
            have Sn2 := hid hgr.2.1
            have kk := hgr.2.2
            have K7 : Hid (Kp (fun k => tag k ≠ 0) W1 W7) := K6.out.trans kk (fun q _ e => by omega)
            have T7 : Hid (∀ k, W7.heap.size ≤ k → tag k = 0) := fun k hk => T6.out k (Nat.le_trans kk.size hk)
            have Rfxxxx := hid (Rfxxx.out.keep kk (by decide))
            have Rhxxxx := hid (Rhxxx.out.keep kk (by decide))
            have Saxxx := hid (Saxx.out.keep kk (by decide) (by decide))
            have Sa2xxx := hid (Sa2xx.out.keep kk (by decide) (by decide))
            have Sbxx := hid (Sbx.out.keep kk (by decide) (by decide))
            have Sb2xx := hid (Sb2x.out.keep kk (by decide) (by decide))
            have Smx := hid (Sm.out.keep kk (by decide) (by decide))
            have Sm2x := hid (Sm2.out.keep kk (by decide) (by decide))
            clear h1 hk hl2 hold hgr kk hown T6 K6
            have hown : Hid (W7.ownsRow 0 50 Pc.ET.k (.slice pf nf cf) nf (fl Pc.ET A5)) := owns_re Rfxxxx.out.own HSCp.out.1 rfl
            go_wp2_with (at_builtin; refine wpAppKeep1 Pc.ET Tryz.underlying55 infoTi rfl (by decide) rfl _ _ rfl (.slice pf nf cf) nf A5 rfl hown.out t73 (by first | rfl | (go_simp; done)) (by omega) (by unfold maxLen; omega) _ rfl _ ?_)
            intro gf2 cf2 W8 h1 hk hl2 hold
            have hgr := Rv.grow Rfxxxx.out T7.out (by rw [HSCp.out.1]; exact h1) hk hl2 hold
            rw [HSCp.out.1] at hgr
            have Sf := hid hgr.1
            have Sf2 := hid hgr.2.1
            have kk := hgr.2.2
            have K8 : Hid (Kp (fun k => tag k ≠ 0) W1 W8) := K7.out.trans kk (fun q _ e => by omega)
            have T8 : Hid (∀ k, W8.heap.size ≤ k → tag k = 0) := fun k hk => T7.out k (Nat.le_trans kk.size hk)
            have Rhxxxxx := hid (Rhxxxx.out.keep kk (by decide))
            have Saxxxx := hid (Saxxx.out.keep kk (by decide) (by decide))
            have Sa2xxxx := hid (Sa2xxx.out.keep kk (by decide) (by decide))
            have Sbxxx := hid (Sbxx.out.keep kk (by decide) (by decide))
            have Sb2xxx := hid (Sb2xx.out.keep kk (by decide) (by decide))
            have Smxx := hid (Smx.out.keep kk (by decide) (by decide))
            have Sm2xx := hid (Sm2x.out.keep kk (by decide) (by decide))
            have Snx := hid (Sn.out.keep kk (by decide) (by decide))
            have Sn2x := hid (Sn2.out.keep kk (by decide) (by decide))
            clear h1 hk hl2 hold hgr kk hown T7 K7
            have hown : Hid (W8.ownsRow 0 50 Pc.ET.k (.slice ph nf ch) nf (fl Pc.ET B5)) := owns_re Rhxxxxx.out.own HSCq.out.1 rfl
            go_wp2_with (at_builtin; refine wpAppKeep1 Pc.ET Tryz.underlying55 infoTi rfl (by decide) rfl _ _ rfl (.slice ph nf ch) nf B5 rfl hown.out t74 (by first | rfl | (go_simp; done)) (by omega) (by unfold maxLen; omega) _ rfl _ ?_)
            intro gh2 ch2 W9 h1 hk hl2 hold
            have hgr := Rv.grow Rhxxxxx.out T8.out (by rw [HSCq.out.1]; exact h1) hk hl2 hold
            rw [HSCq.out.1] at hgr
            have Sh := hid hgr.1
            have Sh2 := hid hgr.2.1
            have kk := hgr.2.2
            have K9 : Hid (Kp (fun k => tag k ≠ 0) W1 W9) := K8.out.trans kk (fun q _ e => by omega)
            have T9 : Hid (∀ k, W9.heap.size ≤ k → tag k = 0) := fun k hk => T8.out k (Nat.le_trans kk.size hk)
            have Saxxxxx := hid (Saxxxx.out.keep kk (by decide) (by decide))
            have Sa2xxxxx := hid (Sa2xxxx.out.keep kk (by decide) (by decide))
            have Sbxxxx := hid (Sbxxx.out.keep kk (by decide) (by decide))
            have Sb2xxxx := hid (Sb2xxx.out.keep kk (by decide) (by decide))
            have Smxxx := hid (Smxx.out.keep kk (by decide) (by decide))
            have Sm2xxx := hid (Sm2xx.out.keep kk (by decide) (by decide))
            have Snxx := hid (Snx.out.keep kk (by decide) (by decide))
            have Sn2xx := hid (Sn2x.out.keep kk (by decide) (by decide))
            have Sfx := hid (Sf.out.keep kk (by decide) (by decide))
            have Sf2x := hid (Sf2.out.keep kk (by decide) (by decide))
            clear h1 hk hl2 hold hgr kk hown T8 K8
            have HRA : Hid (∀ W, Below W9.heap.size W9 W → Ls Pc.ET W (.slice pa na ca) A3 ∧ Ls Pc.ET W (.slice pb na cb) B3 ∧ Ls Pc.ET W (.slice (some ⟨ga2, 0, none⟩) (na + 1) ca2) (A3 ++ [t73]) ∧ Ls Pc.ET W (.slice (some ⟨gb2, 0, none⟩) (na + 1) cb2) (B3 ++ [t74])) := fun W h => ⟨Saxxxxx.out.ls.below h, Sbxxxx.out.ls.below h, Sa2xxxxx.out.ls.below h, Sb2xxxx.out.ls.below h⟩
            have HRM : Hid (∀ W, Below W9.heap.size W9 W → Ls EI W (.slice pm nm cm) A4 ∧ Ls EI W (.slice pn nm cn) B4 ∧ Ls EI W (.slice (some ⟨gm2, 0, none⟩) (nm + 1) cm2) (A4 ++ [(-73)]) ∧ Ls EI W (.slice (some ⟨gn2, 0, none⟩) (nm + 1) cn2) (B4 ++ [(-74)])) := fun W h => ⟨Smxxx.out.ls.below h, Snxx.out.ls.below h, Sm2xxx.out.ls.below h, Sn2xx.out.ls.below h⟩
            have HRF : Hid (∀ W, Below W9.heap.size W9 W → Ls Pc.ET W (.slice pf nf cf) A5 ∧ Ls Pc.ET W (.slice ph nf ch) B5 ∧ Ls Pc.ET W (.slice (some ⟨gf2, 0, none⟩) (nf + 1) cf2) (A5 ++ [t73]) ∧ Ls Pc.ET W (.slice (some ⟨gh2, 0, none⟩) (nf + 1) ch2) (B5 ++ [t74])) := fun W h => ⟨Sfx.out.ls.below h, Sh.out.ls.below h, Sf2x.out.ls.below h, Sh2.out.ls.below h⟩
            clear Saxxxxx Sa2xxxxx Sbxxxx Sb2xxxx Smxxx Sm2xxx Snxx Sn2xx Sfx Sf2x Sh Sh2 T9
            have HB9 : Hid (Below W9.heap.size W9 W9) := Below.refl _ _
            go_wp2_with fail
            go_loopw [29] (fun sS wr => ∃ i : Nat, i ≤ na ∧ sS = .int .i64 (i : Nat) ∧ Hid (Below W9.heap.size W9 wr)) (fun sS _ => na - (RowKit.intOf sS).toNat)
            case atStart => exact ⟨0, Nat.zero_le _, rfl, HB9.out⟩
            case round =>
             clear HB9
             obtain ⟨i, hi, rfl, HI⟩ := hrel
             by_cases hlt : i < na
             ·have hz : (i : Int) < (na : Int) := by omega
              have hz1 : (i : Int) < ((na + 1 : Nat) : Int) := by omega
              have hi0 : (0 : Int) ≤ (i : Int) := by omega
              have ha := HSAp.out.2 i hlt
              have hb := HSAq.out.2 i hlt
              obtain ⟨x1, x2, x3, x4⟩ := HRA.out wr HI.out
              obtain ⟨b1, o1, q1, e1, l1, _, _, y1⟩ := x1.atP ha
              obtain ⟨b2, o2, q2, e2, l2, _, _, y2⟩ := x2.atP hb
              obtain ⟨b3, o3, q3, e3, l3, _, _, y3⟩ := x3.atP (by rw [List.getElem?_append_left (by rw [HSAp.out.1]; exact hlt)]; exact ha)
              obtain ⟨b4, o4, q4, e4, l4, _, _, y4⟩ := x4.atP (by rw [List.getElem?_append_left (by rw [HSAq.out.1]; exact hlt)]; exact hb)
              simp only [Value.slice.injEq] at e1 e2
              simp only [Value.slice.injEq, Option.some.injEq, Addr.mk.injEq] at e3 e4
              obtain ⟨rfl, -, rfl⟩ := e1
              obtain ⟨rfl, -, rfl⟩ := e2
              obtain ⟨⟨rfl, rfl, -⟩, -, -⟩ := e3
              obtain ⟨⟨rfl, rfl, -⟩, -, -⟩ := e4
              rw [Nat.zero_add] at y3 y4
              have z1 : wr.cell? ⟨b1, o1 + i * 3 + 2, none⟩ = some (.int .u64 71) := y1
              have z2 : wr.cell? ⟨b2, o2 + i * 3 + 2, none⟩ = some (.int .u64 72) := y2
              have z3 : wr.cell? ⟨ga2, i * 3 + 2, none⟩ = some (.int .u64 71) := y3
              have z4 : wr.cell? ⟨gb2, i * 3 + 2, none⟩ = some (.int .u64 72) := y4
              clear y1 y2 y3 y4 ha hb x1 x2 x3 x4
              go_wp2_with fail
              exact ⟨⟨i + 1, by omega, by go_num, HI.out⟩, by simp [RowKit.intOf]; omega⟩
             ·have hz : ¬ (i : Int) < (na : Int) := by omega
              have HB10 := hid HI.out
              clear HI hi hlt
              go_wp2_with fail
              go_loopw [30] (fun sS wr => ∃ i : Nat, i ≤ nm ∧ sS = .int .i64 (i : Nat) ∧ Hid (Below W9.heap.size W9 wr)) (fun sS _ => nm - (RowKit.intOf sS).toNat)
              case atStart => exact ⟨0, Nat.zero_le _, rfl, HB10.out⟩
              case round =>
               clear HB10
               obtain ⟨i, hi, rfl, HI⟩ := hrel
               by_cases hlt : i < nm
               ·have hz : (i : Int) < (nm : Int) := by omega
                have hz1 : (i : Int) < ((nm + 1 : Nat) : Int) := by omega
                have hi0 : (0 : Int) ≤ (i : Int) := by omega
                have ha := HSBp.out.2 i hlt
                have hb := HSBq.out.2 i hlt
                obtain ⟨x1, x2, x3, x4⟩ := HRM.out wr HI.out
                obtain ⟨b1, o1, q1, e1, l1, y1⟩ := int_at x1 ha
                obtain ⟨b2, o2, q2, e2, l2, y2⟩ := int_at x2 hb
                obtain ⟨b3, o3, q3, e3, l3, y3⟩ := int_at x3 (by rw [List.getElem?_append_left (by rw [HSBp.out.1]; exact hlt)]; exact ha)
                obtain ⟨b4, o4, q4, e4, l4, y4⟩ := int_at x4 (by rw [List.getElem?_append_left (by rw [HSBq.out.1]; exact hlt)]; exact hb)
                simp only [Value.slice.injEq] at e1 e2
                simp only [Value.slice.injEq, Option.some.injEq, Addr.mk.injEq] at e3 e4
                obtain ⟨rfl, -, rfl⟩ := e1
                obtain ⟨rfl, -, rfl⟩ := e2
                obtain ⟨⟨rfl, rfl, -⟩, -, -⟩ := e3
                obtain ⟨⟨rfl, rfl, -⟩, -, -⟩ := e4
                rw [Nat.zero_add] at y3 y4
                have z1 : wr.cell? ⟨b1, o1 + i, none⟩ = some (.int .i64 (-71)) := y1
                have z2 : wr.cell? ⟨b2, o2 + i, none⟩ = some (.int .i64 (-72)) := y2
                have z3 : wr.cell? ⟨gm2, i, none⟩ = some (.int .i64 (-71)) := y3
                have z4 : wr.cell? ⟨gn2, i, none⟩ = some (.int .i64 (-72)) := y4
                clear y1 y2 y3 y4 ha hb x1 x2 x3 x4
                go_wp2_with fail
                exact ⟨⟨i + 1, by omega, by go_num, HI.out⟩, by simp [RowKit.intOf]; omega⟩
               ·have hz : ¬ (i : Int) < (nm : Int) := by omega
                have HB11 := hid HI.out
                clear HI hi hlt
                go_wp2_with fail
                go_loopw [31] (fun sS wr => ∃ i : Nat, i ≤ nf ∧ sS = .int .i64 (i : Nat) ∧ Hid (Below W9.heap.size W9 wr)) (fun sS _ => nf - (RowKit.intOf sS).toNat)
                case atStart => exact ⟨0, Nat.zero_le _, rfl, HB11.out⟩
                case round =>
                 clear HB11
                 obtain ⟨i, hi, rfl, HI⟩ := hrel
                 by_cases hlt : i < nf
                 ·have hz : (i : Int) < (nf : Int) := by omega
                  have hz1 : (i : Int) < ((nf + 1 : Nat) : Int) := by omega
                  have hi0 : (0 : Int) ≤ (i : Int) := by omega
                  have ha := HSCp.out.2 i hlt
                  have hb := HSCq.out.2 i hlt
                  obtain ⟨x1, x2, x3, x4⟩ := HRF.out wr HI.out
                  obtain ⟨b1, o1, q1, e1, l1, _, _, y1⟩ := x1.atP ha
                  obtain ⟨b2, o2, q2, e2, l2, _, _, y2⟩ := x2.atP hb
                  obtain ⟨b3, o3, q3, e3, l3, _, _, y3⟩ := x3.atP (by rw [List.getElem?_append_left (by rw [HSCp.out.1]; exact hlt)]; exact ha)
                  obtain ⟨b4, o4, q4, e4, l4, _, _, y4⟩ := x4.atP (by rw [List.getElem?_append_left (by rw [HSCq.out.1]; exact hlt)]; exact hb)
                  simp only [Value.slice.injEq] at e1 e2
                  simp only [Value.slice.injEq, Option.some.injEq, Addr.mk.injEq] at e3 e4
                  obtain ⟨rfl, -, rfl⟩ := e1
                  obtain ⟨rfl, -, rfl⟩ := e2
                  obtain ⟨⟨rfl, rfl, -⟩, -, -⟩ := e3
                  obtain ⟨⟨rfl, rfl, -⟩, -, -⟩ := e4
                  rw [Nat.zero_add] at y3 y4
                  have z1 : wr.cell? ⟨b1, o1 + i * 3 + 2, none⟩ = some (.int .u64 71) := y1
                  have z2 : wr.cell? ⟨b2, o2 + i * 3 + 2, none⟩ = some (.int .u64 72) := y2
                  have z3 : wr.cell? ⟨gf2, i * 3 + 2, none⟩ = some (.int .u64 71) := y3
                  have z4 : wr.cell? ⟨gh2, i * 3 + 2, none⟩ = some (.int .u64 72) := y4
                  clear y1 y2 y3 y4 ha hb x1 x2 x3 x4
                  go_wp2_with fail
                  exact ⟨⟨i + 1, by omega, by go_num, HI.out⟩, by simp [RowKit.intOf]; omega⟩
                 ·have hz : ¬ (i : Int) < (nf : Int) := by omega
                  have HB12 := hid HI.out
                  clear HI hi hlt
                  go_upto_region 58 with fail
                  have K10 : Kp (fun k => tag k ≠ 0) W1 wr := K9.out.trans (T := fun _ => False) (Kp.of_below HB12.out) (fun _ _ h => h.elim)
                  have B10 : Below Wk.heap.size Wk wr := HKB.out _ K10
                  obtain ⟨b1, o1, q1, e1, l1, _, _, y1⟩ := ((HRA.out wr HB12.out).2.2.1).atP (show (A3 ++ [t73])[na]? = some t73 from by rw [List.getElem?_append_right (by rw [HSAp.out.1]; exact Nat.le_refl _), HSAp.out.1]; simp)
                  simp only [Value.slice.injEq, Option.some.injEq, Addr.mk.injEq] at e1
                  obtain ⟨⟨rfl, rfl, -⟩, -, -⟩ := e1
                  rw [Nat.zero_add] at y1
                  have z1 : wr.cell? ⟨ga2, na * 3 + 2, none⟩ = some (.int .u64 73) := y1
                  clear y1
                  obtain ⟨b2, o2, q2, e2, l2, _, _, y2⟩ := ((HRA.out wr HB12.out).2.2.2).atP (show (B3 ++ [t74])[na]? = some t74 from by rw [List.getElem?_append_right (by rw [HSAq.out.1]; exact Nat.le_refl _), HSAq.out.1]; simp)
                  simp only [Value.slice.injEq, Option.some.injEq, Addr.mk.injEq] at e2
                  obtain ⟨⟨rfl, rfl, -⟩, -, -⟩ := e2
                  rw [Nat.zero_add] at y2
                  have z2 : wr.cell? ⟨gb2, na * 3 + 2, none⟩ = some (.int .u64 74) := y2
                  clear y2
                  obtain ⟨b3, o3, q3, e3, l3, y3⟩ := int_at ((HRM.out wr HB12.out).2.2.1) (show (A4 ++ [(-73)])[nm]? = some (-73) from by rw [List.getElem?_append_right (by rw [HSBp.out.1]; exact Nat.le_refl _), HSBp.out.1]; simp)
                  simp only [Value.slice.injEq, Option.some.injEq, Addr.mk.injEq] at e3
                  obtain ⟨⟨rfl, rfl, -⟩, -, -⟩ := e3
                  rw [Nat.zero_add] at y3
                  have z3 : wr.cell? ⟨gm2, nm, none⟩ = some (.int .i64 (-73)) := y3
                  clear y3
                  obtain ⟨b4, o4, q4, e4, l4, y4⟩ := int_at ((HRM.out wr HB12.out).2.2.2) (show (B4 ++ [(-74)])[nm]? = some (-74) from by rw [List.getElem?_append_right (by rw [HSBq.out.1]; exact Nat.le_refl _), HSBq.out.1]; simp)
                  simp only [Value.slice.injEq, Option.some.injEq, Addr.mk.injEq] at e4
                  obtain ⟨⟨rfl, rfl, -⟩, -, -⟩ := e4
                  rw [Nat.zero_add] at y4
                  have z4 : wr.cell? ⟨gn2, nm, none⟩ = some (.int .i64 (-74)) := y4
                  clear y4
                  obtain ⟨b5, o5, q5, e5, l5, _, _, y5⟩ := ((HRF.out wr HB12.out).2.2.1).atP (show (A5 ++ [t73])[nf]? = some t73 from by rw [List.getElem?_append_right (by rw [HSCp.out.1]; exact Nat.le_refl _), HSCp.out.1]; simp)
                  simp only [Value.slice.injEq, Option.some.injEq, Addr.mk.injEq] at e5
                  obtain ⟨⟨rfl, rfl, -⟩, -, -⟩ := e5
                  rw [Nat.zero_add] at y5
                  have z5 : wr.cell? ⟨gf2, nf * 3 + 2, none⟩ = some (.int .u64 73) := y5
                  clear y5
                  obtain ⟨b6, o6, q6, e6, l6, _, _, y6⟩ := ((HRF.out wr HB12.out).2.2.2).atP (show (B5 ++ [t74])[nf]? = some t74 from by rw [List.getElem?_append_right (by rw [HSCq.out.1]; exact Nat.le_refl _), HSCq.out.1]; simp)
                  simp only [Value.slice.injEq, Option.some.injEq, Addr.mk.injEq] at e6
                  obtain ⟨⟨rfl, rfl, -⟩, -, -⟩ := e6
                  rw [Nat.zero_add] at y6
                  have z6 : wr.cell? ⟨gh2, nf * 3 + 2, none⟩ = some (.int .u64 74) := y6
                  clear y6
                  have j1 : (na : Int) < ((na + 1 : Nat) : Int) := by omega
                  have j2 : (nm : Int) < ((nm + 1 : Nat) : Int) := by omega
                  have j3 : (nf : Int) < ((nf + 1 : Nat) : Int) := by omega
                  have j4 : (0 : Int) ≤ (na : Int) := by omega
                  have j5 : (0 : Int) ≤ (nm : Int) := by omega
                  have j6 : (0 : Int) ≤ (nf : Int) := by omega
                  have c0 := (tk_store (HA.out wr B10)).1
                  have l0 := tk_lt (HA.out wr B10)
                  have hle := (HH.out wr B10).le P Q (HR.out P Q)
                  rw [← HLA.out, ← HNA.out] at hle
                  clear hz
                  go_wp2_with fail
                  refine hle.mono ?_
                  rintro e u1 ⟨p1, q1, rfl, H1⟩
                  have K11 : Hid (Kp (fun k => tag k ≠ 0) W1 u1) := K10.trans (T := fun _ => False) (Kp.of_below H1.out.2) (fun _ _ h => h.elim)
                  clear hle c0 l0 z1 z2 z3 z4 z5 z6 l1 l2 l3 l4 l5 l6
                  go_wp2_with fail
                  refine (sameP_eq _ H1.out.1 (HDO.out _ K11.out).1 (by rw [← HNA.out]; omega)).mono ?_
                  rintro e u2 ⟨rfl, g2⟩
                  have K12 : Hid (Kp (fun k => tag k ≠ 0) W1 u2) := K11.out.trans (T := fun _ => False) (Kp.of_below g2.below) (fun _ _ h => h.elim)
                  clear g2 H1 K11
                  have B12 := HKB.out _ K12.out
                  have c0 := (tk_store (HA.out u2 B12)).1
                  have l0 := tk_lt (HA.out u2 B12)
                  have hto := (HH.out u2 B12).to P hn
                  rw [← HLM.out, ← HNM.out] at hto
                  go_wp2_with fail
                  refine hto.mono ?_
                  rintro e u3 ⟨p3, q3, rfl, H3⟩
                  have K13 : Hid (Kp (fun k => tag k ≠ 0) W1 u3) := K12.out.trans (T := fun _ => False) (Kp.of_below H3.out.2) (fun _ _ h => h.elim)
                  clear hto c0 l0 B12
                  go_wp2_with fail
                  refine (sameI_eq _ H3.out.1 (HDO.out _ K13.out).2.1 (by rw [← HNM.out]; omega)).mono ?_
                  rintro e u4 ⟨rfl, g4⟩
                  have K14 : Hid (Kp (fun k => tag k ≠ 0) W1 u4) := K13.out.trans (T := fun _ => False) (Kp.of_below g4.below) (fun _ _ h => h.elim)
                  clear g4 H3 K13
                  have B14 := HKB.out _ K14.out
                  have c0 := (tk_store (HA.out u4 B14)).1
                  have l0 := tk_lt (HA.out u4 B14)
                  have hfr := (HH.out u4 B14).fr Q HR.out HL.out
                  rw [← HLF2.out, ← HNF.out] at hfr
                  go_wp2_with fail
                  refine hfr.mono ?_
                  rintro e u5 ⟨p5, q5, rfl, H5⟩
                  have K15 : Hid (Kp (fun k => tag k ≠ 0) W1 u5) := K14.out.trans (T := fun _ => False) (Kp.of_below H5.out.2) (fun _ _ h => h.elim)
                  clear hfr c0 l0 B14
                  go_wp2_with fail
                  refine (sameT_eq _ H5.out.1 (HDO.out _ K15.out).2.2 (by rw [← HNF.out]; omega)).mono ?_
                  rintro e u6 ⟨rfl, g6⟩
                  have K16 : Hid (Kp (fun k => tag k ≠ 0) W1 u6) := K15.out.trans (T := fun _ => False) (Kp.of_below g6.below) (fun _ _ h => h.elim)
                  go_wp2_with fail
                  go_ret
                  exact ⟨rfl, HBk.out.trans ((HKB.out _ K16.out).mono HBk.out.size)⟩
end Go.Proofs.YtdnnfgabdkkdjaaGreat.Lf
