/-
  Plain mathematics of configurations, with no program in it: what is allowed, who owns a slot, who votes.
-/
namespace Plait

structure Cf where
  N : Int
  Pi : Int
  E : Int
  G : Int
  F : Int
  P : List Int

/-- All numbers are such as a machine holds. -/
def inI (x : Int) : Prop := -9223372036854775808 ≤ x ∧ x ≤ 9223372036854775807

def numsB (c : Cf) : Bool :=
  decide (6 ≤ c.N) && decide (c.N ≤ 12) && decide (0 ≤ c.E) && decide (c.E ≤ 100) && decide (0 ≤ c.G) && decide (c.G ≤ 100) && decide (0 ≤ c.F) && decide (c.F ≤ 65535) && decide (4 * (c.E + c.G + 1) ≤ c.Pi) && decide (c.Pi ≤ 10000)

theorem numsB_iff (c : Cf) : numsB c = true ↔ 6 ≤ c.N ∧ c.N ≤ 12 ∧ 0 ≤ c.E ∧ c.E ≤ 100 ∧ 0 ≤ c.G ∧ c.G ≤ 100 ∧ 0 ≤ c.F ∧ c.F ≤ 65535 ∧ 4 * (c.E + c.G + 1) ≤ c.Pi ∧ c.Pi ≤ 10000 := by
  simp [numsB]; omega

theorem numsB_not (c : Cf) (h : ¬ (6 ≤ c.N ∧ c.N ≤ 12 ∧ 0 ≤ c.E ∧ c.E ≤ 100 ∧ 0 ≤ c.G ∧ c.G ≤ 100 ∧ 0 ≤ c.F ∧ c.F ≤ 65535 ∧ 4 * (c.E + c.G + 1) ≤ c.Pi ∧ c.Pi ≤ 10000)) : numsB c = false := by
  rw [Bool.eq_false_iff]; intro e; exact h ((numsB_iff c).1 e)

/-- A number that stands among pairs. -/
def pairB (c : Cf) (a : Int) : Bool := decide (-1 ≤ a) && decide (a < c.N)

def pairsB (c : Cf) : Bool := c.P.all (pairB c)

def checkI (c : Cf) : Int := if numsB c then if c.P.length ≤ 3 then if pairsB c then 0 else 1 else 2 else 1

theorem checkI_nums (c : Cf) (h : numsB c = false) : checkI c = 1 := by simp [checkI, h]
theorem checkI_long (c : Cf) (h : numsB c = true) (hl : 3 < c.P.length) : checkI c = 2 := by
  simp [checkI, h]; omega
theorem checkI_pairs (c : Cf) (h : numsB c = true) (hl : c.P.length ≤ 3) : checkI c = if pairsB c then 0 else 1 := by simp [checkI, h, hl]

/-- A network that may be. -/
structure Cf.Ok (c : Cf) : Prop where
  n6 : 6 ≤ c.N
  n12 : c.N ≤ 12
  e0 : 0 ≤ c.E
  e1 : c.E ≤ 100
  g0 : 0 ≤ c.G
  g1 : c.G ≤ 100
  f0 : 0 ≤ c.F
  f1 : c.F ≤ 65535
  p0 : 4 * (c.E + c.G + 1) ≤ c.Pi
  p1 : c.Pi ≤ 10000
  len : c.P.length ≤ 3
  all : ∀ a ∈ c.P, -1 ≤ a ∧ a < c.N

theorem Cf.Ok.nums {c : Cf} (h : c.Ok) : numsB c = true := (numsB_iff c).2 ⟨h.n6, h.n12, h.e0, h.e1, h.g0, h.g1, h.f0, h.f1, h.p0, h.p1⟩
theorem Cf.Ok.check {c : Cf} (h : c.Ok) : checkI c = 0 := by
  have hp : pairsB c = true := by
    unfold pairsB
    rw [List.all_eq_true]
    intro a ha
    have := h.all a ha
    simp [pairB]; omega
  simp [checkI, h.nums, h.len, hp]

def nodeB (c : Cf) (s : Int) : Bool := decide (0 ≤ s) && decide (s < c.N)

/-- The first node of a pair slot; of any other slot -1. -/
def pairAt (c : Cf) (s : Int) : Int := if c.N ≤ s ∧ s < c.N + c.P.length then c.P.getD (s - c.N).toNat (-1) else -1

def owners (c : Cf) (s : Int) : List Int := if nodeB c s then [s] else if nodeB c (pairAt c s) then [pairAt c s, (pairAt c s + 1) % c.N] else []

theorem nodeB_iff (c : Cf) (s : Int) : nodeB c s = true ↔ 0 ≤ s ∧ s < c.N := by simp [nodeB]
theorem nodeB_no (c : Cf) (s : Int) (h : ¬ (0 ≤ s ∧ s < c.N)) : nodeB c s = false := by rw [Bool.eq_false_iff]; intro e; exact h ((nodeB_iff c s).1 e)

theorem owners_node (c : Cf) (s : Int) (h : nodeB c s = true) : owners c s = [s] := by simp [owners, h]
theorem owners_pair (c : Cf) (s : Int) (h : nodeB c s = false) (h2 : nodeB c (pairAt c s) = true) : owners c s = [pairAt c s, (pairAt c s + 1) % c.N] := by simp [owners, h, h2]
theorem owners_none (c : Cf) (s : Int) (h : nodeB c s = false) (h2 : nodeB c (pairAt c s) = false) : owners c s = [] := by simp [owners, h, h2]

theorem pairAt_in (c : Cf) (k : Nat) (h : k < c.P.length) : pairAt c (c.N + k) = c.P[k] := by
  unfold pairAt
  rw [if_pos (by omega), show (c.N + (k : Int) - c.N).toNat = k by omega, List.getD_eq_getElem?_getD, List.getElem?_eq_getElem h]
  rfl
theorem pairAt_out (c : Cf) (s : Int) (h : ∀ k : Nat, k < c.P.length → s ≠ c.N + k) : pairAt c s = -1 := by
  unfold pairAt
  rw [if_neg]
  intro ⟨h1, h2⟩
  exact h (s - c.N).toNat (by omega) (by omega)

theorem owners_in (c : Cf) (hc : c.Ok) (s : Int) : ∀ a ∈ owners c s, 0 ≤ a ∧ a < c.N := by
  intro a ha
  have h6 := hc.n6
  by_cases h : nodeB c s = true
  · rw [owners_node c s h] at ha
    have := (nodeB_iff c s).1 h
    simp at ha; rw [ha]; exact this
  · rw [Bool.not_eq_true] at h
    by_cases h2 : nodeB c (pairAt c s) = true
    · rw [owners_pair c s h h2] at ha
      have := (nodeB_iff c _).1 h2
      simp at ha
      rcases ha with rfl | rfl
      · exact this
      · exact ⟨Int.emod_nonneg _ (by omega), Int.emod_lt_of_pos _ (by omega)⟩
    · rw [Bool.not_eq_true] at h2
      rw [owners_none c s h h2] at ha
      simp at ha

theorem owners_len (c : Cf) (s : Int) : (owners c s).length ≤ 2 := by
  unfold owners; split
  · simp
  · split <;> simp

/-- Is a number among others? -/
def inB (zs : List Int) (x : Int) : Bool := zs.contains x

/-- All nodes below k that are no owners. -/
def votersTo (c : Cf) (s : Int) (k : Nat) : List Int := ((List.range k).map fun i : Nat => (i : Int)).filter fun i => !(owners c s).contains i
def voters (c : Cf) (s : Int) : List Int := votersTo c s c.N.toNat

theorem votersTo_succ (c : Cf) (s : Int) (k : Nat) : votersTo c s (k + 1) = if (owners c s).contains (k : Int) then votersTo c s k else votersTo c s k ++ [(k : Int)] := by
  unfold votersTo
  rw [List.range_succ, List.map_append, List.filter_append]
  simp only [List.map_cons, List.map_nil, List.filter_cons, List.filter_nil]
  cases (owners c s).contains (k : Int) <;> simp

theorem votersTo_len (c : Cf) (s : Int) (k : Nat) : (votersTo c s k).length ≤ k := by
  unfold votersTo
  refine Nat.le_trans (List.length_filter_le _ _) ?_
  simp

theorem votersTo_in (c : Cf) (s : Int) (k : Nat) : ∀ a ∈ votersTo c s k, 0 ≤ a ∧ a < k := by
  intro a ha
  unfold votersTo at ha
  have h := (List.mem_filter.1 ha).1
  rw [List.mem_map] at h
  obtain ⟨i, hi, rfl⟩ := h
  rw [List.mem_range] at hi
  omega

def slotsI (c : Cf) : Int := c.N + c.P.length
def mostI (c : Cf) : Int := c.N / 2 + 1
def windowI (c : Cf) : Int := 2 * c.Pi
def limitI (c : Cf) : Int := 4 * c.N + 8
def wireI (c : Cf) (r : Int) : Int := (c.F + r) % 65536

theorem pairsB_no (c : Cf) (k : Nat) (h : k < c.P.length) (hn : pairB c c.P[k] = false) : pairsB c = false := by
  rw [Bool.eq_false_iff]
  intro e
  unfold pairsB at e
  rw [List.all_eq_true] at e
  rw [e _ (List.getElem_mem h)] at hn
  cases hn
theorem pairsB_yes (c : Cf) (k : Nat) (h : ¬ k < c.P.length) (ha : ∀ z ∈ c.P.take k, pairB c z = true) : pairsB c = true := by
  unfold pairsB
  rw [List.all_eq_true]
  rw [List.take_of_length_le (by omega)] at ha
  exact ha
theorem pairB_node (c : Cf) (z : Int) (h : z ≠ -1) : pairB c z = nodeB c z := by
  unfold pairB nodeB
  congr 1
  simp; omega

/-- The law's network that may be, of a raw one. -/
def makeC (c : Cf) : Cf :=
  { N := 6 + c.N % 7
    Pi := 4 * (c.E % 21 + c.G % 21 + 1) + c.Pi % 100
    E := c.E % 21
    G := c.G % 21
    F := if c.F % 3 = 0 then 65535 - c.F % 40 else c.F % 65536
    P := (c.P.take 3).map fun z => z % (6 + c.N % 7 + 1) - 1 }

theorem makeC_ok (c : Cf) : (makeC c).Ok where
  n6 := by simp only [makeC]; omega
  n12 := by simp only [makeC]; omega
  e0 := by simp only [makeC]; omega
  e1 := by simp only [makeC]; omega
  g0 := by simp only [makeC]; omega
  g1 := by simp only [makeC]; omega
  f0 := by simp only [makeC]; split <;> omega
  f1 := by simp only [makeC]; split <;> omega
  p0 := by simp only [makeC]; omega
  p1 := by simp only [makeC]; omega
  len := by simp [makeC]; omega
  all := by
    intro a ha
    simp only [makeC, List.mem_map] at ha ⊢
    obtain ⟨z, _, rfl⟩ := ha
    have h1 : 0 ≤ z % (6 + c.N % 7 + 1) := Int.emod_nonneg _ (by omega)
    have h2 : z % (6 + c.N % 7 + 1) < 6 + c.N % 7 + 1 := Int.emod_lt_of_pos _ (by omega)
    omega

end Plait
