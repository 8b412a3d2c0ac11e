import Derived.Test.YtkopmkmfigenlaaDPure
namespace Go.Proofs.Ytkopmkmfigenlaa.Df
open Wi

/-- A path, an instruction, a connection, a node, an edge, a graph. -/
abbrev Pth := Nat × Nat × Nat
structure Opd where
  kind : Int
  arg : Nat
  deriving DecidableEq
structure Con where
  inn : Int
  out : Int
  via : Pth
  deriving DecidableEq
structure Nod where
  kind : Int
  ins : Int
  outs : Int
  code : List Opd
  via : Pth
  bound : Nat
  conns : List Con
  start : Bool
  deriving DecidableEq
structure Edg where
  src : Int
  out : Int
  dst : Int
  inn : Int
  keyed : Bool
  deriving DecidableEq
structure Gph where
  arity : Int
  nodes : List Nod
  edges : List Edg
  deriving DecidableEq

/-- What the types bear. -/
def I64 (n : Int) : Prop := -9223372036854775808 ≤ n ∧ n ≤ 9223372036854775807
def U64 (n : Nat) : Prop := n ≤ 18446744073709551615
theorem i64_of {n : Int} (h : 0 ≤ n ∧ n ≤ 9223372036854775807) : I64 n := ⟨by omega, h.2⟩
def PthT (p : Pth) : Prop := U64 p.1 ∧ U64 p.2.1 ∧ U64 p.2.2
def OpdT (o : Opd) : Prop := I64 o.kind ∧ U64 o.arg
def ConT (c : Con) : Prop := I64 c.inn ∧ I64 c.out ∧ PthT c.via
def NodT (n : Nod) : Prop := I64 n.kind ∧ I64 n.ins ∧ I64 n.outs ∧ (∀ o ∈ n.code, OpdT o) ∧ PthT n.via ∧ U64 n.bound ∧ ∀ c ∈ n.conns, ConT c
def EdgT (x : Edg) : Prop := I64 x.src ∧ I64 x.out ∧ I64 x.dst ∧ I64 x.inn
def GphT (g : Gph) : Prop := I64 g.arity ∧ (∀ n ∈ g.nodes, NodT n) ∧ ∀ x ∈ g.edges, EdgT x

/-- The bytes. -/
def bpth (p : Pth) : List UInt8 := form p.1 ++ (form p.2.1 ++ form p.2.2)
def bopd (o : Opd) : List UInt8 := bint o.kind ++ form o.arg
def bcon (c : Con) : List UInt8 := bint c.inn ++ (bint c.out ++ bpth c.via)
def bbody (n : Nod) : List UInt8 :=
  if n.kind = 2 ∨ n.kind = 3 then blst bopd n.code
  else if n.kind = 4 then bint n.ins
  else if n.kind = 5 then form n.bound ++ bpth n.via
  else if n.kind = 8 then btruth n.start ++ (blst bcon n.conns ++ (bint n.outs ++ bint n.ins))
  else []
def bnod (n : Nod) : List UInt8 := bint n.kind ++ bbody n
def bedg (x : Edg) : List UInt8 := bint x.src ++ (bint x.out ++ (bint x.dst ++ (bint x.inn ++ btruth x.keyed)))
def bgph (g : Gph) : List UInt8 := bint g.arity ++ (blst bnod g.nodes ++ blst bedg g.edges)

/-- Why it has none: the errors in their order. -/
def ports (n : Nod) : Bool :=
  if n.kind = 1 then n.ins = 0 && n.outs = 1
  else if n.kind = 7 then n.ins = 1 && n.outs = 0
  else if n.kind = 4 then decide (0 ≤ n.ins) && n.outs = 1
  else if n.kind = 8 then decide (0 ≤ n.ins) && decide (0 ≤ n.outs)
  else n.ins = 1 && n.outs = 1
def bare (n : Nod) : Bool :=
  (n.kind = 2 || n.kind = 3 || n.code.length = 0) && (n.kind = 5 || (n.via = (0, 0, 0) && n.bound = 0)) && (n.kind = 8 || (n.conns.length = 0 && !n.start))
def enod (n : Nod) : Nat :=
  if n.kind < 1 ∨ 8 < n.kind then 20
  else if ports n = false then 21
  else if bare n = false then 22
  else if 16 < n.code.length ∨ 16 < n.conns.length then 2
  else if n.code.any (fun o => o.kind < 0) then 24
  else if n.conns.any (fun c => c.inn < 0 || c.out < 0) then 23
  else 0
def eedg (x : Edg) : Nat := if x.src < 0 ∨ x.out < 0 ∨ x.dst < 0 ∨ x.inn < 0 then 25 else 0
/-- The first error of a list. -/
def efirst {α : Type} (f : α → Nat) : List α → Nat
  | [] => 0
  | x :: l => if f x = 0 then efirst f l else f x
def egph (g : Gph) : Nat :=
  if 24 < g.nodes.length then 2
  else if 48 < g.edges.length then 2
  else if g.arity < 0 then 10
  else if efirst enod g.nodes ≠ 0 then efirst enod g.nodes
  else efirst eedg g.edges
theorem efirst_ok {α : Type} (f : α → Nat) (l : List α) : efirst f l = 0 ↔ ∀ x ∈ l, f x = 0 := by
  induction l with
  | nil => simp [efirst]
  | cons x l ih =>
    unfold efirst
    by_cases h : f x = 0
    · rw [if_pos h, ih]; simp [h]
    · rw [if_neg h]; simp [h]
theorem egph_ok (g : Gph) : egph g = 0 ↔ g.nodes.length ≤ 24 ∧ g.edges.length ≤ 48 ∧ 0 ≤ g.arity ∧ (∀ n ∈ g.nodes, enod n = 0) ∧ ∀ x ∈ g.edges, eedg x = 0 := by
  unfold egph
  rw [← efirst_ok, ← efirst_ok]
  split
  · simp; omega
  · split
    · simp; omega
    · split
      · simp; omega
      · split
        · rename_i h1 h2 h3 h4
          simp [h4]
        · rename_i h1 h2 h3 h4
          have h4' : efirst enod g.nodes = 0 := by simpa using h4
          simp only [h4', true_and]
          omega

/-- What reads them. -/
def ppth : Pa Pth := any.and (any.and any)
def popd : Pa Opd := (int.and any).map fun z => ⟨z.1, z.2⟩
def pcon : Pa Con := (int.and (int.and ppth)).map fun z => ⟨z.1, z.2.1, z.2.2⟩
def pbody (k : Nat) : Pa Nod :=
  if k = 2 ∨ k = 3 then (lst 16 popd).map fun l => ⟨k, 1, 1, l, (0, 0, 0), 0, [], false⟩
  else if k = 4 then int.map fun n => ⟨k, n, 1, [], (0, 0, 0), 0, [], false⟩
  else if k = 5 then (any.and ppth).map fun z => ⟨k, 1, 1, [], z.2, z.1, [], false⟩
  else if k = 8 then (truth.and ((lst 16 pcon).and (int.and int))).map fun z => ⟨k, z.2.2.2, z.2.2.1, [], (0, 0, 0), 0, z.2.1, z.1⟩
  else if k = 1 then Pa.ret ⟨k, 0, 1, [], (0, 0, 0), 0, [], false⟩
  else if k = 7 then Pa.ret ⟨k, 1, 0, [], (0, 0, 0), 0, [], false⟩
  else Pa.ret ⟨k, 1, 1, [], (0, 0, 0), 0, [], false⟩
def pkind : Pa Nat := any.guard (fun k => decide (1 ≤ k ∧ k ≤ 8)) 20
def pnod : Pa Nod := pkind.bind pbody
def pedg : Pa Edg := (int.and (int.and (int.and (int.and truth)))).map fun z => ⟨z.1, z.2.1, z.2.2.1, z.2.2.2.1, z.2.2.2.2⟩
def pgph : Pa Gph := (int.and ((lst 24 pnod).and (lst 48 pedg))).map fun z => ⟨z.1, z.2.1, z.2.2⟩
def none' : Gph := ⟨0, [], []⟩
def get (L : List UInt8) : Gph × Nat × Nat := match pgph L 0 with
  | .inl e => (none', e.1, e.2)
  | .inr x => if x.2 < L.length then (none', 32, x.2) else (x.1, 0, 0)

theorem fits_pth : Fits ppth bpth PthT := fits_any.and (fits_any.and fits_any)
theorem fits_opd : Fits popd bopd (fun o => OpdT o ∧ 0 ≤ o.kind) :=
  (fits_int.and fits_any).map _ (fun o ho => ⟨(o.kind, o.arg), ⟨⟨ho.2, ho.1.1.2⟩, ho.1.2⟩, rfl⟩) (fun _ hz => ⟨⟨⟨i64_of hz.1, hz.2⟩, hz.1.1⟩, rfl⟩)
theorem fits_con : Fits pcon bcon (fun c => ConT c ∧ 0 ≤ c.inn ∧ 0 ≤ c.out) :=
  (fits_int.and (fits_int.and fits_pth)).map _ (fun c hc => ⟨(c.inn, c.out, c.via), ⟨⟨hc.2.1, hc.1.1.2⟩, ⟨hc.2.2, hc.1.2.1.2⟩, hc.1.2.2⟩, rfl⟩)
    (fun _ hz => ⟨⟨⟨i64_of hz.1, i64_of hz.2.1, hz.2.2⟩, hz.1.1, hz.2.1.1⟩, rfl⟩)
theorem fits_edg : Fits pedg bedg (fun x => EdgT x ∧ eedg x = 0) := by
  refine (fits_int.and (fits_int.and (fits_int.and (fits_int.and fits_truth)))).map _ (fun x hx => ⟨(x.src, x.out, x.dst, x.inn, x.keyed), ?_, rfl⟩) (fun z hz => ⟨?_, rfl⟩)
  · obtain ⟨⟨h1, h2, h3, h4⟩, h5⟩ := hx
    have h6 : ¬ (x.src < 0 ∨ x.out < 0 ∨ x.dst < 0 ∨ x.inn < 0) := fun h => by rw [eedg, if_pos h] at h5; cases h5
    unfold I64 at h1 h2 h3 h4
    refine ⟨⟨?_, h1.2⟩, ⟨?_, h2.2⟩, ⟨?_, h3.2⟩, ⟨?_, h4.2⟩, trivial⟩ <;> simp only <;> omega
  · obtain ⟨h1, h2, h3, h4, _⟩ := hz
    refine ⟨⟨i64_of h1, i64_of h2, i64_of h3, i64_of h4⟩, ?_⟩
    unfold eedg
    rw [if_neg (by simp only; omega)]
theorem enod_ok (n : Nod) : enod n = 0 ↔ (1 ≤ n.kind ∧ n.kind ≤ 8) ∧ ports n = true ∧ bare n = true ∧ n.code.length ≤ 16 ∧ n.conns.length ≤ 16 ∧ (∀ o ∈ n.code, 0 ≤ o.kind) ∧ ∀ c ∈ n.conns, 0 ≤ c.inn ∧ 0 ≤ c.out := by
  have hc : n.code.any (fun o => o.kind < 0) = false ↔ ∀ o ∈ n.code, 0 ≤ o.kind := by simp
  have hd : n.conns.any (fun c => c.inn < 0 || c.out < 0) = false ↔ ∀ c ∈ n.conns, 0 ≤ c.inn ∧ 0 ≤ c.out := by simp
  rw [← hc, ← hd]
  unfold enod
  split
  · simp; omega
  · split
    · rename_i h; simp [h]
    · split
      · rename_i h; simp [h]
      · split
        · simp; omega
        · split
          · rename_i h; simp [h]
          · split
            · rename_i h; simp [h]
            · rename_i h1 h2 h3 h4 h5 h6
              simp only [Bool.not_eq_false] at h2 h3
              simp only [Bool.not_eq_true] at h5 h6
              refine ⟨fun _ => ⟨by omega, h2, h3, by omega, by omega, h5, h6⟩, fun _ => rfl⟩
theorem Fits.re {α : Type} {p : Pa α} {f F : α → List UInt8} {ok ok' : α → Prop} (h : Fits p f ok) (e : ∀ x, ok' x ↔ ok x) (hf : ∀ x, ok x → F x = f x) : Fits p F ok' where
  there := fun x hx L a rest hd => by
    have hx := (e x).1 hx
    rw [hf x hx] at hd ⊢
    exact h.there x hx L a rest hd
  short := fun x hx L a n ha hn hd => by
    have hx := (e x).1 hx
    rw [hf x hx] at hd hn
    exact h.short x hx L a n ha hn hd
  back := fun L a x a' ha hd => by
    obtain ⟨k1, k2⟩ := h.back L a x a' ha hd
    rw [hf x k1]
    exact ⟨(e x).2 k1, k2⟩
  fault := h.fault
/-- A node's body by its kind. -/
theorem fits_body (k : Nat) (h1 : 1 ≤ k) (h8 : k ≤ 8) : Fits (pbody k) bbody (fun n => (NodT n ∧ enod n = 0) ∧ n.kind = k) := by
  have hk : I64 (k : Int) := ⟨by omega, by omega⟩
  have i0 : I64 0 := ⟨by decide, by decide⟩
  have i1 : I64 1 := ⟨by decide, by decide⟩
  have p0 : PthT (0, 0, 0) := ⟨Nat.zero_le _, Nat.zero_le _, Nat.zero_le _⟩
  have u0 : U64 0 := Nat.zero_le _
  by_cases c23 : k = 2 ∨ k = 3
  · rw [pbody, if_pos c23]
    refine (fits_lst (by decide) fits_opd).map _ ?_ ?_
    · rintro ⟨kd, ins, outs, code, via, bound, conns, start⟩ ⟨⟨hT, hE⟩, rfl⟩
      rw [enod_ok] at hE
      obtain ⟨_, e2, e3, e4, _, e6, _⟩ := hE
      have e2' : ins = 1 ∧ outs = 1 := by rcases c23 with rfl | rfl <;> simpa [ports] using e2
      have e3' : (via = (0, 0, 0) ∧ bound = 0) ∧ conns = [] ∧ start = false := by rcases c23 with rfl | rfl <;> simpa [bare] using e3
      obtain ⟨rfl, rfl⟩ := e2'
      obtain ⟨⟨rfl, rfl⟩, rfl, rfl⟩ := e3'
      exact ⟨code, ⟨e4, fun o ho => ⟨hT.2.2.2.1 o ho, e6 o ho⟩⟩, rfl⟩
    · rintro l ⟨hl, hm⟩
      refine ⟨⟨⟨⟨hk, i1, i1, fun o ho => (hm o ho).1, p0, u0, fun c hc => (by cases hc)⟩, ?_⟩, rfl⟩, ?_⟩
      · rw [enod_ok]
        refine ⟨⟨by simp only; omega, by simp only; omega⟩, ?_, ?_, hl, by simp, fun o ho => (hm o ho).2, fun c hc => (by cases hc)⟩
        · rcases c23 with rfl | rfl <;> simp [ports]
        · rcases c23 with rfl | rfl <;> simp [bare]
      · rcases c23 with rfl | rfl <;> simp [bbody]
  · rw [pbody, if_neg c23]
    by_cases c4 : k = 4
    · rw [if_pos c4]
      subst c4
      refine fits_int.map _ ?_ ?_
      · rintro ⟨kd, ins, outs, code, via, bound, conns, start⟩ ⟨⟨hT, hE⟩, rfl⟩
        rw [enod_ok] at hE
        obtain ⟨_, e2, e3, e4, _, e6, _⟩ := hE
        have e2' : 0 ≤ ins ∧ outs = 1 := by simpa [ports] using e2
        have e3' : (code = [] ∧ (via = (0, 0, 0) ∧ bound = 0)) ∧ conns = [] ∧ start = false := by simpa [bare] using e3
        obtain ⟨e2', rfl⟩ := e2'
        obtain ⟨⟨rfl, rfl, rfl⟩, rfl, rfl⟩ := e3'
        exact ⟨ins, ⟨e2', hT.2.1.2⟩, rfl⟩
      · intro n hn
        refine ⟨⟨⟨⟨hk, i64_of hn, i1, fun o ho => (by cases ho), p0, u0, fun c hc => (by cases hc)⟩, ?_⟩, rfl⟩, ?_⟩
        · rw [enod_ok]
          refine ⟨by simp, ?_, by simp [bare], by simp, by simp, fun o ho => (by cases ho), fun c hc => (by cases hc)⟩
          simp [ports, hn.1]
        · simp [bbody]
    · rw [if_neg c4]
      by_cases c5 : k = 5
      · rw [if_pos c5]
        subst c5
        refine (fits_any.and fits_pth).map _ ?_ ?_
        · rintro ⟨kd, ins, outs, code, via, bound, conns, start⟩ ⟨⟨hT, hE⟩, rfl⟩
          rw [enod_ok] at hE
          obtain ⟨_, e2, e3, e4, _, e6, _⟩ := hE
          have e2' : ins = 1 ∧ outs = 1 := by simpa [ports] using e2
          have e3' : code = [] ∧ conns = [] ∧ start = false := by simpa [bare] using e3
          obtain ⟨rfl, rfl⟩ := e2'
          obtain ⟨rfl, rfl, rfl⟩ := e3'
          exact ⟨(bound, via), ⟨hT.2.2.2.2.2.1, hT.2.2.2.2.1⟩, rfl⟩
        · rintro ⟨b, q⟩ ⟨hb, hq⟩
          refine ⟨⟨⟨⟨hk, i1, i1, fun o ho => (by cases ho), hq, hb, fun c hc => (by cases hc)⟩, ?_⟩, rfl⟩, ?_⟩
          · rw [enod_ok]
            exact ⟨by simp, by simp [ports], by simp [bare], by simp, by simp, fun o ho => (by cases ho), fun c hc => (by cases hc)⟩
          · simp [bbody]
      · rw [if_neg c5]
        by_cases c8 : k = 8
        · rw [if_pos c8]
          subst c8
          refine (fits_truth.and ((fits_lst (by decide) fits_con).and (fits_int.and fits_int))).map _ ?_ ?_
          · rintro ⟨kd, ins, outs, code, via, bound, conns, start⟩ ⟨⟨hT, hE⟩, rfl⟩
            rw [enod_ok] at hE
            obtain ⟨_, e2, e3, _, e5, _, e7⟩ := hE
            have e2' : 0 ≤ ins ∧ 0 ≤ outs := by simpa [ports] using e2
            have e3' : code = [] ∧ via = (0, 0, 0) ∧ bound = 0 := by simpa [bare] using e3
            obtain ⟨rfl, rfl, rfl⟩ := e3'
            exact ⟨(start, conns, outs, ins), ⟨trivial, ⟨e5, fun c hc => ⟨hT.2.2.2.2.2.2 c hc, e7 c hc⟩⟩, ⟨e2'.2, hT.2.2.1.2⟩, e2'.1, hT.2.1.2⟩, rfl⟩
          · rintro ⟨st, cs, o, i⟩ ⟨_, ⟨hl, hm⟩, ho, hi⟩
            refine ⟨⟨⟨⟨hk, i64_of hi, i64_of ho, fun o ho => (by cases ho), p0, u0, fun c hc => (hm c hc).1⟩, ?_⟩, rfl⟩, ?_⟩
            · rw [enod_ok]
              refine ⟨by simp, ?_, by simp [bare], by simp, hl, fun o ho => (by cases ho), fun c hc => (hm c hc).2⟩
              have h1 := ho.1
              have h2 := hi.1
              simp only at h1 h2
              simp [ports, h1, h2]
            · simp [bbody]
        · rw [if_neg c8]
          have fin : ∀ a b : Int, I64 a → I64 b → (∀ (n : Nod), n.kind = k → (ports n = true ↔ n.ins = a ∧ n.outs = b)) → Fits (Pa.ret (⟨k, a, b, [], (0, 0, 0), 0, [], false⟩ : Nod)) bbody (fun n => (NodT n ∧ enod n = 0) ∧ n.kind = k) := fun a b ha hb hp => by
            have hB : ∀ n : Nod, n.kind = k → bbody n = [] := fun n hn => by
              unfold bbody
              rw [hn, if_neg (by omega), if_neg (by omega), if_neg (by omega), if_neg (by omega)]
            have key : ∀ n : Nod, ((NodT n ∧ enod n = 0) ∧ n.kind = k) ↔ n = ⟨k, a, b, [], (0, 0, 0), 0, [], false⟩ := by
              intro n
              constructor
              · rintro ⟨⟨hT, hE⟩, hn⟩
                rw [enod_ok, hp n hn] at hE
                obtain ⟨kd, ins, outs, code, via, bound, conns, start⟩ := n
                simp only at hn
                subst hn
                obtain ⟨_, ⟨rfl, rfl⟩, e3, _⟩ := hE
                have n2 : ¬ (k : Int) = 2 := by omega
                have n3 : ¬ (k : Int) = 3 := by omega
                have n5 : ¬ (k : Int) = 5 := by omega
                have n8 : ¬ (k : Int) = 8 := by omega
                simp only [bare, n2, n3, n5, n8, decide_false, Bool.false_or, Bool.and_eq_true, decide_eq_true_eq, List.length_eq_zero_iff, Bool.not_eq_true'] at e3
                obtain ⟨⟨rfl, rfl, rfl⟩, rfl, rfl⟩ := e3
                rfl
              · rintro rfl
                refine ⟨⟨⟨hk, ha, hb, fun o ho => (by cases ho), p0, u0, fun c hc => (by cases hc)⟩, ?_⟩, rfl⟩
                rw [enod_ok, hp _ rfl]
                exact ⟨⟨by simp only; omega, by simp only; omega⟩, ⟨rfl, rfl⟩, by simp [bare], by simp, by simp, fun o ho => (by cases ho), fun c hc => (by cases hc)⟩
            exact (Fits.ret (⟨k, a, b, [], (0, 0, 0), 0, [], false⟩ : Nod)).re key (fun x hx => by subst hx; exact hB _ rfl)
          by_cases c1 : k = 1
          · rw [if_pos c1]
            exact fin 0 1 i0 i1 (fun n hn => by simp [ports, hn, c1])
          · rw [if_neg c1]
            by_cases c7 : k = 7
            · rw [if_pos c7]
              exact fin 1 0 i1 i0 (fun n hn => by simp [ports, hn, c7])
            · rw [if_neg c7]
              refine fin 1 1 i1 i1 (fun n hn => ?_)
              unfold ports
              rw [hn, if_neg (by omega), if_neg (by omega), if_neg (by omega), if_neg (by omega)]
              simp
theorem fits_kind : Fits pkind form (fun k => 1 ≤ k ∧ k ≤ 8) :=
  (fits_any.guard (fun k => decide (1 ≤ k ∧ k ≤ 8)) 20 (by decide)).re (fun k => by simp; omega) (fun _ _ => rfl)
theorem fits_nod : Fits pnod bnod (fun n => NodT n ∧ enod n = 0) := by
  refine Fits.bind fits_kind (okq := fun k n => (NodT n ∧ enod n = 0) ∧ n.kind = k) (g := fun _ => bbody) (fun k hk => fits_body k hk.1 hk.2) ?_ ?_
  · intro n hn
    have h := ((enod_ok n).1 hn.2).1
    exact ⟨n.kind.toNat, by omega, hn, by omega⟩
  · intro k n hk hn
    refine ⟨hn.1, ?_⟩
    rw [bnod, bint, hn.2]
    rfl
theorem fits_gph : Fits pgph bgph (fun g => GphT g ∧ egph g = 0) := by
  refine (fits_int.and ((fits_lst (by decide) fits_nod).and (fits_lst (by decide) fits_edg))).map _ (fun g hg => ⟨(g.arity, g.nodes, g.edges), ?_, rfl⟩) (fun z hz => ⟨?_, rfl⟩)
  · obtain ⟨⟨t1, t2, t3⟩, h⟩ := hg
    obtain ⟨h1, h2, h3, h4, h5⟩ := (egph_ok g).1 h
    exact ⟨⟨h3, t1.2⟩, ⟨h1, fun n hn => ⟨t2 n hn, h4 n hn⟩⟩, h2, fun x hx => ⟨t3 x hx, h5 x hx⟩⟩
  · obtain ⟨h1, ⟨h2, h3⟩, h4, h5⟩ := hz
    exact ⟨⟨i64_of h1, fun n hn => (h3 n hn).1, fun x hx => (h5 x hx).1⟩, (egph_ok _).2 ⟨h2, h4, h1.1, fun n hn => (h3 n hn).2, fun x hx => (h5 x hx).2⟩⟩

/-- There. -/
theorem get_put {g : Gph} (hT : GphT g) (h : egph g = 0) : get (bgph g) = (g, 0, 0) := by
  have e := fits_gph.there g ⟨hT, h⟩ (bgph g) 0 [] (by simp)
  unfold get
  simp only [e, Nat.zero_add, Nat.lt_irrefl, if_false]
/-- Each beginning is too short. -/
theorem get_short {g : Gph} (hT : GphT g) (h : egph g = 0) (n : Nat) (hn : n < (bgph g).length) : ∃ t, get ((bgph g).take n) = (none', 30, t) ∧ t ≤ n := by
  obtain ⟨t, e, _, h2⟩ := fits_gph.short g ⟨hT, h⟩ ((bgph g).take n) 0 n (Nat.zero_le _) hn (by simp)
  rw [List.length_take] at h2
  exact ⟨t, by unfold get; simp only [e], by omega⟩
/-- With more behind it there is a rest. -/
theorem get_rest {g : Gph} (hT : GphT g) (h : egph g = 0) (x : UInt8) (l : List UInt8) : get (bgph g ++ x :: l) = (none', 32, (bgph g).length) := by
  have e := fits_gph.there g ⟨hT, h⟩ (bgph g ++ x :: l) 0 (x :: l) (by simp)
  unfold get
  simp only [e, Nat.zero_add, List.length_append, List.length_cons]
  rw [if_pos (by omega)]
/-- Back: what is taken is the one form; else a place in the bytes is told. -/
theorem get_back (L : List UInt8) : (∃ e t, get L = (none', e, t) ∧ e ≠ 0 ∧ t ≤ L.length) ∨ ∃ g, get L = (g, 0, 0) ∧ GphT g ∧ egph g = 0 ∧ bgph g = L := by
  unfold get
  cases hp : pgph L 0 with
  | inl e =>
    obtain ⟨_, h1, h2⟩ := fits_gph.fault L 0 e.1 e.2 (Nat.zero_le _) hp
    exact Or.inl ⟨_, _, rfl, h2, h1⟩
  | inr x =>
    obtain ⟨⟨h1, h2⟩, h3, h4, h5⟩ := fits_gph.back L 0 x.1 x.2 (Nat.zero_le _) hp
    by_cases hl : x.2 < L.length
    · simp only [hl, if_true]
      exact Or.inl ⟨_, _, rfl, by decide, h5⟩
    · simp only [hl, if_false]
      refine Or.inr ⟨_, rfl, h1, h2, ?_⟩
      rw [List.drop_zero, List.drop_eq_nil_of_le (by omega), List.append_nil] at h3
      exact h3.symm
end Go.Proofs.Ytkopmkmfigenlaa.Df
