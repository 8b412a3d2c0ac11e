import Derived.Test.YtbomkeginbhhoaaCLst
import Derived.Laws.CopyOwn
namespace Go.Proofs.Ytbomkeginbhhoaa
open Go.RowKit Go.Sort

/-- All blocks but those of S are as they were. -/
structure Kp (S : Nat → Prop) (w w' : World) : Prop where
  os : w'.os = w.os
  tape : w'.tape = w.tape
  output : w'.output = w.output
  size : w.heap.size ≤ w'.heap.size
  block : ∀ k, k < w.heap.size → ¬ S k → w'.heap[k]? = w.heap[k]?
theorem Kp.refl (S : Nat → Prop) (w : World) : Kp S w w := ⟨rfl, rfl, rfl, Nat.le_refl _, fun _ _ _ => rfl⟩
theorem Kp.trans {S T : Nat → Prop} {a b c : World} (h : Kp S a b) (k : Kp T b c) (hT : ∀ j, j < a.heap.size → T j → S j) : Kp S a c :=
  ⟨k.os.trans h.os, k.tape.trans h.tape, k.output.trans h.output, Nat.le_trans h.size k.size, fun i hi hS => (k.block i (Nat.lt_of_lt_of_le hi h.size) (fun ht => hS (hT i hi ht))).trans (h.block i hi hS)⟩
theorem Kp.of_below {S : Nat → Prop} {w w' : World} (h : Below w.heap.size w w') : Kp S w w' := ⟨h.os, h.tape, h.output, h.size, fun k hk _ => h.block k hk⟩
theorem Kp.below {S : Nat → Prop} {B : Nat} {w w' : World} (h : Kp S w w') (hB : B ≤ w.heap.size) (hS : ∀ k, S k → B ≤ k) : Below B w w' :=
  ⟨h.os, h.tape, h.output, h.size, fun k hk => h.block k (Nat.lt_of_lt_of_le hk hB) (fun hs => absurd (hS k hs) (Nat.not_le.2 hk))⟩
theorem Kp.grownBy {S : Nat → Prop} {w w' : World} {r : Option Nat} (h : w.grownBy w' r) (hS : ∀ k, r = some k → S k) : Kp S w w' :=
  ⟨h.os, h.tape, h.output, h.size, fun k hk hs => h.block k hk (fun e => hs (hS k e.symm))⟩
theorem Kp.lst {S : Nat → Prop} {w w' : World} {v : Value} {l : List P2} (h : Kp S w w') (hv : Lst w v l) (hS : ∀ k, v.ownBlock = some k → ¬ S k) : Lst w' v l :=
  hv.kept h.size fun g hg => h.block g (hv.blk g hg) (hS g hg)
theorem owns_kp {S : Nat → Prop} {w w' : World} {base : Nat} {e : TypeId} {size : Nat} {v : Value} {n : Nat} {xs : List Value} (h : Kp S w w') (ho : w.ownsRow base e size v n xs) (hS : ∀ k, v.ownBlock = some k → ¬ S k) : w'.ownsRow base e size v n xs := by
  obtain ⟨h1, h2⟩ := ho
  refine ⟨h1, ?_⟩
  rcases h2 with h2 | ⟨g, cap, cur, hv, hg, hh, r⟩
  · exact Or.inl h2
  · exact Or.inr ⟨g, cap, cur, hv, hg, by rw [h.block g (Array.getElem?_eq_some_iff.1 hh).1 (hS g (by rw [hv]; rfl))]; exact hh, r⟩
theorem owns_below {w w' : World} {base : Nat} {e : TypeId} {size : Nat} {v : Value} {n : Nat} {xs : List Value} (h : w.ownsRow base e size v n xs) (hb : Below w.heap.size w w') : w'.ownsRow base e size v n xs :=
  owns_kp (S := fun _ => False) (Kp.of_below hb) h fun _ _ hf => hf
theorem owns_base {w : World} {b b' : Nat} {e : TypeId} {size : Nat} {v : Value} {n : Nat} {xs : List Value} (h : w.ownsRow b e size v n xs) (hb : b' ≤ b) : w.ownsRow b' e size v n xs := by
  obtain ⟨h1, h2⟩ := h
  refine ⟨h1, ?_⟩
  rcases h2 with h2 | ⟨g, cap, cur, hv, hg, r⟩
  · exact Or.inl h2
  · exact Or.inr ⟨g, cap, cur, hv, Nat.le_trans hb hg, r⟩

/-- A chain's block and its list. -/
structure Ch (w : World) (cb fb ff : Nat) (v : Value) (l : List P2) : Prop where
  blk : w.heap[cb]? = some (.cells #[fv fb, fv ff, v] 66 (0, 0))
  own : w.ownsRow 0 28 2 v l.length (flatP l)
  off : v.ownBlock ≠ some cb
section
variable {w w' : World} {cb fb ff : Nat} {v : Value} {l : List P2}
theorem Ch.lt (h : Ch w cb fb ff v l) : cb < w.heap.size := (Array.getElem?_eq_some_iff.1 h.blk).1
theorem Ch.c0 (h : Ch w cb fb ff v l) : w.cell? ⟨cb, 0, none⟩ = some (fv fb) := by simp [World.cell?, h.blk]
theorem Ch.c1 (h : Ch w cb fb ff v l) : w.cell? ⟨cb, 1, none⟩ = some (fv ff) := by simp [World.cell?, h.blk]
theorem Ch.c2 (h : Ch w cb fb ff v l) : w.cell? ⟨cb, 2, none⟩ = some v := by simp [World.cell?, h.blk]
theorem Ch.fz (h : Ch w cb fb ff v l) : w.frozen? ⟨cb, 2, none⟩ = false := by simp [World.frozen?, h.blk]
theorem Ch.lst (h : Ch w cb fb ff v l) : Lst w v l := owns_lst h.own
theorem Ch.row (h : Ch w cb fb ff v l) : ∀ k, v.ownBlock = some k → k < w.heap.size := fun k hk => (h.own.lt k hk).2
theorem Ch.kp {S : Nat → Prop} (h : Ch w cb fb ff v l) (hk : Kp S w w') (h1 : ¬ S cb) (h2 : ∀ k, v.ownBlock = some k → ¬ S k) : Ch w' cb fb ff v l :=
  ⟨(hk.block cb h.lt h1).trans h.blk, owns_kp hk h.own h2, h.off⟩
theorem Ch.below (h : Ch w cb fb ff v l) (hb : Below w.heap.size w w') : Ch w' cb fb ff v l := h.kp (S := fun _ => False) (Kp.of_below hb) (fun h => h) (fun _ _ h => h)
/-- The list is set anew. -/
theorem Ch.set {v2 : Value} {l2 : List P2} (h : Ch w cb fb ff v l) (ho : w.ownsRow 0 28 2 v2 l2.length (flatP l2)) (hoff : v2.ownBlock ≠ some cb) : Ch (w.setCell ⟨cb, 2, none⟩ v2) cb fb ff v2 l2 ∧ Kp (fun k => k = cb) w (w.setCell ⟨cb, 2, none⟩ v2) := by
  have e := setCell_eq_setRow w cb 2 _ _ _ v2 h.blk
  have hk : Kp (fun k => k = cb) w (w.setCell ⟨cb, 2, none⟩ v2) := by
    rw [e]
    exact ⟨rfl, rfl, rfl, by simp [World.setRow], fun k _ hne => setRow_other w cb k _ (by omega)⟩
  refine ⟨⟨?_, owns_kp hk ho (fun k hk he => hoff (he ▸ hk)), hoff⟩, hk⟩
  rw [e, setRow_heap w cb _ _ _ _ h.blk]
  simp
end
/-- What a call may turn of a chain: its block, its row. -/
def Turn (cb : Nat) (v v' : Value) (w w' : World) : Prop := Kp (fun k => k = cb ∨ v.ownBlock = some k) w w' ∧ ∀ g, v'.ownBlock = some g → v.ownBlock = some g ∨ w.heap.size ≤ g
theorem Turn.refl (cb : Nat) (v : Value) (w : World) : Turn cb v v w w := ⟨Kp.refl _ _, fun _ h => Or.inl h⟩
theorem Turn.of_below {cb : Nat} {v : Value} {w w' : World} (h : Below w.heap.size w w') : Turn cb v v w w' := ⟨Kp.of_below h, fun _ h => Or.inl h⟩
theorem Turn.trans {cb : Nat} {v1 v2 v3 : Value} {a b c : World} (h : Turn cb v1 v2 a b) (k : Turn cb v2 v3 b c) : Turn cb v1 v3 a c := by
  refine ⟨h.1.trans k.1 fun j hj hs => ?_, fun g hg => ?_⟩
  · rcases hs with hs | hs
    · exact Or.inl hs
    · rcases h.2 j hs with h1 | h1
      · exact Or.inr h1
      · exact absurd h1 (Nat.not_le.2 hj)
  · rcases k.2 g hg with h1 | h1
    · exact h.2 g h1
    · exact Or.inr (Nat.le_trans h.1.size h1)
/-- Of a chain that lies above B. -/
theorem Turn.below {cb B : Nat} {v v' : Value} {w w' : World} (h : Turn cb v v' w w') (hB : B ≤ w.heap.size) (hc : B ≤ cb) (hv : ∀ g, v.ownBlock = some g → B ≤ g) : Below B w w' ∧ ∀ g, v'.ownBlock = some g → B ≤ g := by
  refine ⟨h.1.below hB fun k hk => ?_, fun g hg => ?_⟩
  · rcases hk with rfl | hk
    · exact hc
    · exact hv k hk
  · rcases h.2 g hg with h1 | h1
    · exact hv g h1
    · exact Nat.le_trans hB h1

/-- 'copy' within rows of elements of several cells. -/
theorem run_copy_rowK {P : Program} (w : World) (dT sT ty elem : TypeId) (s g o dLen dCap : Nat) (a : Addr) (sLen sCap : Nat) (cur : Array Value) (t : TypeId) (cs : List Value)
    (hu : P.underlying dT = some (.slice elem)) (hs : (P.info? elem).map (·.size) = some s)
    (hg : w.heap[g]? = some (.cells cur t (0, 0))) (hn : cs.length = Nat.min sLen dLen * s)
    (hsrc : ∀ j v, cs[j]? = some v → w.cell? (a.add j) = some v) (hfit : o + cs.length ≤ cur.size) (h1 : ∀ v ∈ cs, v.oneCell' = true) :
    (Builtin.copy_ #[dT, sT] ty #[.slice (some ⟨g, o, none⟩) dLen dCap, .slice (some a) sLen sCap]).run P w =
      .ok (goInt (Nat.min sLen dLen)) (w.setRow g (cur.toList.take o ++ cs ++ cur.toList.drop (o + cs.length)).toArray) := by
  have hl := run_loadCells_list (P := P) w a cs hsrc
  have hst := run_storeCells_at P g o t cs 0 cur w hg (by simpa using hfit) h1
  cases hq : P.info? elem with
  | none => simp [hq] at hs
  | some i =>
    have hi : i.size = s := by simpa [hq] using hs
    simp [Builtin.copy_, run_underlying hu, Builtin.lenOf, Builtin.firstCells, sizeOf, typeInfo, hq, hi, ← hn, hl, hst]
end Go.Proofs.Ytbomkeginbhhoaa
