import Derived.Test.YtdnnfgabdkkdjaaGreatGCopd
namespace Go.Proofs.YtdnnfgabdkkdjaaGreat.Df
open Go.RowKit Go.Sort
abbrev Spt := Nat × Nat × Bool
def spotsOf (i : Nat) (n : Nod) : List Spt := (List.range n.ins.toNat).map (fun p => (i, p, true)) ++ (List.range n.outs.toNat).map (fun p => (i, p, false))
def spotsU (ns : List Nod) : Nat → List Spt
 | 0 => []
 | i + 1 => spotsU ns i ++ match ns[i]? with | some n => spotsOf i n | none => []
def firstN (ns : List Nod) (i : Nat) : Nat := (spotsU ns i).length
def firsts (ns : List Nod) (i : Nat) : List Int := (List.range i).map fun k => (firstN ns k : Int)
theorem spotsU_succ {ns : List Nod} {i : Nat} {n : Nod} (hi : ns[i]? = some n) : spotsU ns (i + 1) = spotsU ns i ++ spotsOf i n := by simp [spotsU, hi]
theorem spotsOf_length (i : Nat) (n : Nod) : (spotsOf i n).length = n.ins.toNat + n.outs.toNat := by simp [spotsOf]
theorem firstN_succ {ns : List Nod} {i : Nat} {n : Nod} (hi : ns[i]? = some n) : firstN ns (i + 1) = firstN ns i + (n.ins.toNat + n.outs.toNat) := by simp [firstN, spotsU_succ hi, spotsOf_length]
theorem firsts_succ (ns : List Nod) (i : Nat) : firsts ns (i + 1) = firsts ns i ++ [(firstN ns i : Int)] := by simp [firsts, List.range_succ]
theorem firsts_length (ns : List Nod) (i : Nat) : (firsts ns i).length = i := by simp [firsts]
theorem firsts_get (ns : List Nod) {i m : Nat} (h : i < m) : (firsts ns m)[i]? = some (firstN ns i : Int) := by simp [firsts, h]
theorem spotsU_pre (ns : List Nod) {i m : Nat} (h : i ≤ m) : ∃ l, spotsU ns m = spotsU ns i ++ l := by
 induction m with
 | zero => obtain rfl : i = 0 := by omega
           exact ⟨[], by simp⟩
 | succ m ih =>
  by_cases e : i = m + 1
  ·subst e; exact ⟨[], by simp⟩
  ·obtain ⟨l, hl⟩ := ih (by omega)
   exact ⟨l ++ _, by rw [spotsU, hl, List.append_assoc]⟩
def Pok (ns : List Nod) : Prop := ∀ n ∈ ns, 0 ≤ n.ins ∧ n.ins ≤ 4 ∧ 0 ≤ n.outs ∧ n.outs ≤ 4
theorem firstN_le {ns : List Nod} (h : Pok ns) (i : Nat) : firstN ns i ≤ 8 * i := by
 induction i with
 | zero => simp [firstN, spotsU]
 | succ i ih =>
  cases hi : ns[i]? with
  | none => simp only [firstN, spotsU, hi, List.append_nil] at ih ⊢; omega
  | some n =>
   rw [firstN_succ hi]
   have := h n (List.mem_of_getElem? hi)
   omega
theorem spots_pre {ns : List Nod} {i m k : Nat} {t : Spt} (h : i ≤ m) (hk : (spotsU ns i)[k]? = some t) : (spotsU ns m)[k]? = some t := by
 obtain ⟨l, hl⟩ := spotsU_pre ns h
 rw [hl, List.getElem?_append_left (List.getElem?_eq_some_iff.1 hk).1]
 exact hk
theorem spots_in {ns : List Nod} {i m p : Nat} {n : Nod} (hi : ns[i]? = some n) (hm : i < m) (hp : p < n.ins.toNat) : (spotsU ns m)[firstN ns i + p]? = some (i, p, true) := by
 refine spots_pre (i := i + 1) hm ?_
 rw [spotsU_succ hi, List.getElem?_append_right (by simp [firstN]), firstN, Nat.add_sub_cancel_left, spotsOf, List.getElem?_append_left (by simpa using hp)]
 simp [hp]
theorem spots_out {ns : List Nod} {i m p : Nat} {n : Nod} (hi : ns[i]? = some n) (hm : i < m) (hp : p < n.outs.toNat) : (spotsU ns m)[firstN ns i + n.ins.toNat + p]? = some (i, p, false) := by
 refine spots_pre (i := i + 1) hm ?_
 rw [spotsU_succ hi, List.getElem?_append_right (by simp [firstN]; omega), firstN, show (spotsU ns i).length + n.ins.toNat + p - (spotsU ns i).length = n.ins.toNat + p by omega, spotsOf, List.getElem?_append_right (by simp)]
 simp [hp]
def outPl (ns : List Nod) (d : Edg) : Nat := firstN ns d.src.toNat + (match ns[d.src.toNat]? with | some n => n.ins.toNat | none => 0) + d.out.toNat
def inPl (ns : List Nod) (d : Edg) : Nat := firstN ns d.dst.toNat + d.inn.toNat
def edgesU (ns : List Nod) (es : List Edg) (k : Nat) : Nat → List Int
 | 0 => []
 | j + 1 => edgesU ns es k j ++ match es[j]? with | some d => if outPl ns d = k ∨ inPl ns d = k then [(j : Int)] else [] | none => []
theorem edgesU_length (ns : List Nod) (es : List Edg) (k j : Nat) : (edgesU ns es k j).length ≤ j := by
 induction j with
 | zero => simp [edgesU]
 | succ j ih =>
  rw [edgesU, List.length_append]
  have : (match es[j]? with | some d => if outPl ns d = k ∨ inPl ns d = k then [(j : Int)] else [] | none => []).length ≤ 1 := by
   split
   ·split <;> simp
   ·simp
  omega
theorem has_out {ns : List Nod} {i p : Int} (h : hasON ns i p = true) : ∃ n, ns[i.toNat]? = some n ∧ 0 ≤ i ∧ i.toNat < ns.length ∧ 0 ≤ p ∧ p < n.outs := by
 unfold hasON natN? at h
 by_cases h0 : 0 ≤ i
 ·rw [if_pos h0] at h
  cases e : ns[i.toNat]? with
  | none => rw [e] at h; cases h
  | some n =>
   rw [e] at h
   simp at h
   exact ⟨n, rfl, h0, (List.getElem?_eq_some_iff.1 e).1, h.1, h.2⟩
 ·rw [if_neg h0] at h; cases h
theorem has_in {ns : List Nod} {i p : Int} (h : hasIN ns i p = true) : ∃ n, ns[i.toNat]? = some n ∧ 0 ≤ i ∧ i.toNat < ns.length ∧ 0 ≤ p ∧ p < n.ins := by
 unfold hasIN natN? at h
 by_cases h0 : 0 ≤ i
 ·rw [if_pos h0] at h
  cases e : ns[i.toNat]? with
  | none => rw [e] at h; cases h
  | some n =>
   rw [e] at h
   simp at h
   exact ⟨n, rfl, h0, (List.getElem?_eq_some_iff.1 e).1, h.1, h.2⟩
 ·rw [if_neg h0] at h; cases h
theorem eflaw_has {ns : List Nod} {l : List Edg} {d : Edg} (h : eflawN ns l d = 0) : hasON ns d.src d.out = true ∧ hasIN ns d.dst d.inn = true ∧ anyw l d = false := by
 unfold eflawN at h
 split at h
 ·cases h
 ·rename_i hn
  simp only [not_or, Bool.not_eq_false, Bool.not_eq_true] at hn
  exact hn
theorem out_spot {ns : List Nod} {d : Edg} (h : hasON ns d.src d.out = true) : (spotsU ns ns.length)[outPl ns d]? = some (d.src.toNat, d.out.toNat, false) := by
 obtain ⟨n, hn, _, hl, h1, h2⟩ := has_out h
 unfold outPl
 rw [hn]
 exact spots_out hn hl (by omega)
theorem in_spot {ns : List Nod} {d : Edg} (h : hasIN ns d.dst d.inn = true) : (spotsU ns ns.length)[inPl ns d]? = some (d.dst.toNat, d.inn.toNat, true) := by
 obtain ⟨n, hn, _, hl, h1, h2⟩ := has_in h
 exact spots_in hn hl (by omega)
theorem ends_ne {ns : List Nod} {d : Edg} (h : hasON ns d.src d.out = true) (h' : hasIN ns d.dst d.inn = true) : outPl ns d ≠ inPl ns d := fun e => by
 have h1 := out_spot h
 have h2 := in_spot h'
 rw [e, h2] at h1
 simp at h1
def inN (ns : List Nod) (i p : Int) : Int := if hasIN ns i p = true then firstN ns i.toNat + p else -1
def outN (ns : List Nod) (i p : Int) : Int := if hasON ns i p = true then firstN ns i.toNat + (match ns[i.toNat]? with | some n => n.ins | none => 0) + p else -1
theorem nflaw_ports {a : Int} {n : Nod} (h : nflaw a n = 0) : 0 ≤ n.ins ∧ n.ins ≤ 4 ∧ 0 ≤ n.outs ∧ n.outs ≤ 4 := by
 unfold nflaw at h
 split at h
 ·cases h
 ·split at h
  ·cases h
  ·rename_i h1 h2
   have h2 := Classical.not_not.1 h2
   obtain ⟨h3, h4⟩ := h2
   unfold pIn at h3
   unfold pOut at h4
   constructor
   ·split at h3
    ·simp at h3; omega
    ·split at h3
     ·simp at h3; omega
     ·split at h3 <;> simp at h3 <;> omega
   ·constructor
    ·split at h3
     ·simp at h3; omega
     ·split at h3
      ·simp at h3; omega
      ·split at h3 <;> simp at h3 <;> omega
    ·split at h4
     ·simp at h4; omega
     ·split at h4 <;> simp at h4 <;> omega
theorem Gok.pok {g : Gph} (h : Gok g) : Pok g.nodes := fun n hn => by
 obtain ⟨i, hi, rfl⟩ := List.mem_iff_getElem.1 hn
 exact nflaw_ports (h.ng i _ hi (by simp))
theorem Gok.ends {g : Gph} (h : Gok g) {j : Nat} {d : Edg} (hj : g.edges[j]? = some d) : hasON g.nodes d.src d.out = true ∧ hasIN g.nodes d.dst d.inn = true := by
 have := eflaw_has (h.eg j d (List.getElem?_eq_some_iff.1 hj).1 hj)
 exact ⟨this.1, this.2.1⟩
end Go.Proofs.YtdnnfgabdkkdjaaGreat.Df
