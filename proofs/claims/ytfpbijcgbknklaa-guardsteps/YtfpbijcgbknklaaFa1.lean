/-
  Plain mathematics of the one locus, with no program in it: what is allowed, whom it hits, what it emits, how its clock seems.
-/
import Derived.Test.YtfpbijcgbknklaaFr1
import Derived.Test.YtfpbijcgbknklaaRing1
namespace Plait

structure Ac where
  H : Int
  N : Int
  T : List UInt8
deriving Inhabited, DecidableEq

structure Fa where
  K : Int
  At : Int
  F : Int
  To : Int
  A : List Ac
  D : List Int

/-- How many places there are of a kind. -/
def placesI (c : Cf) (k : Int) : Int := if k = 1 then c.N else if k = 2 then 2 * c.N else 1
def knownL (f : Fa) : Bool := f.K == 0 || f.K == 1 || f.K == 2
def placeL (c : Cf) (f : Fa) : Bool := decide (0 ≤ f.At) && decide (f.At < placesI c f.K)
def roundsL (f : Fa) : Bool := decide (0 ≤ f.F) && decide (f.F ≤ f.To) && decide (f.To ≤ 1000)
def longA (a : Ac) : Bool := decide (1000 < a.T.length)
def longL (f : Fa) : Bool := decide ((40 : Int) < (f.A.length : Int)) || decide ((40 : Int) < (f.D.length : Int)) || f.A.any longA
def checkL (c : Cf) (f : Fa) : Int := if knownL f then if placeL c f && roundsL f then if longL f then 2 else 0 else 1 else 6

theorem checkL_k (c : Cf) (f : Fa) (h : knownL f = false) : checkL c f = 6 := by simp [checkL, h]
theorem checkL_p (c : Cf) (f : Fa) (h : knownL f = true) (h2 : (placeL c f && roundsL f) = false) : checkL c f = 1 := by unfold checkL; rw [h, h2]; rfl
theorem checkL_l (c : Cf) (f : Fa) (h : knownL f = true) (h2 : (placeL c f && roundsL f) = true) : checkL c f = if longL f then 2 else 0 := by unfold checkL; rw [h, h2]; rfl

/-- One that may be. -/
structure Fa.Ok (c : Cf) (f : Fa) : Prop where
  k : f.K = 0 ∨ f.K = 1 ∨ f.K = 2
  a0 : 0 ≤ f.At
  a1 : f.At < placesI c f.K
  f0 : 0 ≤ f.F
  f1 : f.F ≤ f.To
  t1 : f.To ≤ 1000
  lA : f.A.length ≤ 40
  lD : f.D.length ≤ 40
  texts : ∀ a ∈ f.A, a.T.length ≤ 1000

theorem Fa.Ok.check {c : Cf} {f : Fa} (h : f.Ok c) : checkL c f = 0 := by
  obtain ⟨k, a0, a1, f0, f1, t1, lA, lD, tx⟩ := h
  have e1 : knownL f = true := by unfold knownL; rcases k with k | k | k <;> simp [k]
  have e2 : (placeL c f && roundsL f) = true := by unfold placeL roundsL; simp; omega
  have e3 : longL f = false := by
    unfold longL
    have : f.A.any longA = false := by
      rw [List.any_eq_false]
      intro a ha
      have := tx a ha
      unfold longA
      simp; omega
    rw [this]
    simp; omega
  rw [checkL_l c f e1 e2, e3]
  rfl

def hitsB (c : Cf) (f : Fa) (a b : Int) : Bool := if f.K = 1 then f.At == a else if f.K = 2 then (linkI c.N a b).2 && (linkI c.N a b).1 == f.At else false
def atB (f : Fa) (i : Int) : Bool := f.K == 1 && f.At == i
def rightB (f : Fa) (r i : Int) : Bool := decide (f.To ≤ r) || !atB f i

/-- The frame of one that took nothing but null frames. -/
def freshF (c : Cf) (r s : Int) : Fr := ⟨3, wireI c r, s, ⟨1, 0⟩, if s < c.N then List.replicate (slotsI c).toNat ⟨1, 0⟩ else []⟩
def dataF (c : Cf) (r s : Int) (b : List UInt8) : Fr := if (readF c b).2 = 0 ∧ (readF c b).1.K = 3 then (readF c b).1 else freshF c r s
def payF (f : Fr) (n : Int) : Fr := { f with P := ⟨2, n % 256⟩ }
def echF (f : Fr) (n : Int) : Fr := { f with E := List.replicate f.E.length ⟨2, n % 256⟩ }
def turnedL (b : List UInt8) (n : Int) : List UInt8 := if b = [] then [] else clean (turn b (n % (b.length : Int)))
def actL (c : Cf) (a : Ac) (r s : Int) (b : List UInt8) : List UInt8 :=
  if a.H % 7 = 1 then b else if a.H % 7 = 2 then b.take (a.N % ((b.length : Int) + 1)).toNat else if a.H % 7 = 3 then clean a.T else if a.H % 7 = 4 then turnedL b a.N
  else if a.H % 7 = 5 then textF (payF (dataF c r s b) a.N) else if a.H % 7 = 6 then textF (echF (dataF c r s b) a.N) else []
def pickA (A : List Ac) (n : Int) : Ac := A.getD (n % (A.length : Int)).toNat default
def pickI (D : List Int) (n : Int) : Int := D.getD (n % (D.length : Int)).toNat 0
def emitL (c : Cf) (f : Fa) (r s a b : Int) (base : List UInt8) : List UInt8 :=
  if hitsB c f a b = false ∨ f.To ≤ r then base else if r < f.F ∨ f.A = [] then [] else actL c (pickA f.A (17 * r + 5 * s + b)) r s base
def clampI (w x : Int) : Int := max (-w) (min x w)
def devL (c : Cf) (f : Fa) (r o i dev : Int) : Int :=
  if r < f.F ∨ f.To ≤ r ∨ atB f o = false then dev else if f.D = [] then 0 else clampI (3 * windowI c) (pickI f.D (13 * r + i))

theorem readF_ok (c : Cf) (l : List UInt8) : (readF c l).1.Ok c ∨ (readF c l).1 = zeroF := by
  unfold readF
  split
  · exact .inr rfl
  · unfold readB
    split
    · exact .inr rfl
    · split
      · exact .inr rfl
      · split
        · exact .inr rfl
        · rename_i h4
          exact .inl (Fr.Ok.of (by simpa using h4))

theorem readF_ok3 {c : Cf} {l : List UInt8} (h3 : (readF c l).1.K = 3) : (readF c l).1.Ok c := by
  rcases readF_ok c l with h | h
  · exact h
  · rw [h] at h3; simp [zeroF] at h3

theorem freshF_ok (c : Cf) (r s : Int) (hc : c.Ok) (s0 : 0 ≤ s) (s1 : s < slotsI c) : (freshF c r s).Ok c where
  s0 := s0
  s1 := s1
  r0 := by show 0 ≤ wireI c r; unfold wireI; omega
  r1 := by show wireI c r < 65536; unfold wireI; omega
  k1 := by show (1 : Int) ≤ 3; omega
  k3 := by show (3 : Int) ≤ 3; omega
  kp := .inl rfl
  p := rfl
  pz := .inl rfl
  len := by
    have h6 := hc.n6
    show ((if s < c.N then List.replicate (slotsI c).toNat (⟨1, 0⟩ : It) else []).length : Int) = echoI c 3 s
    unfold echoI
    by_cases h : s < c.N
    · rw [if_pos h, if_pos ⟨rfl, h⟩, List.length_replicate]
      unfold slotsI; omega
    · rw [if_neg h, if_neg (by simp [h])]
      rfl
  all := by
    intro i hi
    change i ∈ (if s < c.N then List.replicate (slotsI c).toNat (⟨1, 0⟩ : It) else []) at hi
    split at hi
    · rw [List.eq_of_mem_replicate hi]; rfl
    · simp at hi

theorem dataF_ok (c : Cf) (r s : Int) (b : List UInt8) (hc : c.Ok) (s0 : 0 ≤ s) (s1 : s < slotsI c) : (dataF c r s b).Ok c ∧ (dataF c r s b).K = 3 := by
  unfold dataF
  split
  · rename_i h
    exact ⟨readF_ok3 h.2, h.2⟩
  · exact ⟨freshF_ok c r s hc s0 s1, rfl⟩

theorem payF_ok {c : Cf} {f : Fr} (h : f.Ok c) (hK : f.K = 3) (n : Int) : (payF f n).Ok c where
  s0 := h.s0
  s1 := h.s1
  r0 := h.r0
  r1 := h.r1
  k1 := h.k1
  k3 := h.k3
  kp := h.kp
  p := by
    show itemB ⟨2, n % 256⟩ (f.K == 3) = true
    unfold itemB
    simp
    omega
  pz := .inl hK
  len := h.len
  all := h.all

theorem echF_ok {c : Cf} {f : Fr} (h : f.Ok c) (n : Int) : (echF f n).Ok c where
  s0 := h.s0
  s1 := h.s1
  r0 := h.r0
  r1 := h.r1
  k1 := h.k1
  k3 := h.k3
  kp := h.kp
  p := h.p
  pz := h.pz
  len := by show ((List.replicate f.E.length (⟨2, n % 256⟩ : It)).length : Int) = _; rw [List.length_replicate]; exact h.len
  all := by
    intro i hi
    rw [List.eq_of_mem_replicate hi]
    unfold itemB
    simp
    omega

/-- The locus that the laws make of any one. -/
def cutA (a : Ac) : Ac := ⟨a.H, a.N, a.T.take 300⟩
def makeL (c : Cf) (f : Fa) : Fa :=
  ⟨f.K % 3, if f.K % 3 = 1 then f.At % c.N else if f.K % 3 = 2 then f.At % (2 * c.N) else 0, f.F % 60, f.F % 60 + f.To % 60, (f.A.take 10).map cutA, f.D.take 10⟩
def fewL (f : Fa) : Bool := f.A.all (fun a => decide (a.T.length ≤ 1200)) && decide (f.A.length ≤ 50) && decide (f.D.length ≤ 50)

/-- More than Ok: the numbers are small. -/
structure Fa.Small (c : Cf) (f : Fa) : Prop where
  ok : f.Ok c
  f60 : f.F < 60
  t119 : f.To < 119
  lA : f.A.length ≤ 10
  lD : f.D.length ≤ 10
  texts : ∀ a ∈ f.A, a.T.length ≤ 300

theorem makeL_small (c : Cf) (f : Fa) (hc : c.Ok) : (makeL c f).Small c := by
  have h6 := hc.n6
  have b1 := Int.emod_nonneg f.At (show c.N ≠ 0 by omega)
  have b2 := Int.emod_lt_of_pos f.At (show 0 < c.N by omega)
  have b3 := Int.emod_nonneg f.At (show 2 * c.N ≠ 0 by omega)
  have b4 := Int.emod_lt_of_pos f.At (show 0 < 2 * c.N by omega)
  have lA : ((f.A.take 10).map cutA).length ≤ 10 := by simp; omega
  have lD : (f.D.take 10).length ≤ 10 := by simp; omega
  have tx : ∀ a ∈ (f.A.take 10).map cutA, a.T.length ≤ 300 := by
    intro a ha
    obtain ⟨x, _, rfl⟩ := List.mem_map.1 ha
    unfold cutA
    simp; omega
  refine ⟨⟨?_, ?_, ?_, ?_, ?_, ?_, ?_, ?_, fun a ha => ?_⟩, ?_, ?_, lA, lD, tx⟩
  · show f.K % 3 = 0 ∨ f.K % 3 = 1 ∨ f.K % 3 = 2; omega
  · show 0 ≤ if f.K % 3 = 1 then f.At % c.N else if f.K % 3 = 2 then f.At % (2 * c.N) else 0
    split
    · omega
    · split <;> omega
  · show (if f.K % 3 = 1 then f.At % c.N else if f.K % 3 = 2 then f.At % (2 * c.N) else 0) < if f.K % 3 = 1 then c.N else if f.K % 3 = 2 then 2 * c.N else 1
    split
    · omega
    · split <;> omega
  · show 0 ≤ f.F % 60; omega
  · show f.F % 60 ≤ f.F % 60 + f.To % 60; omega
  · show f.F % 60 + f.To % 60 ≤ 1000; omega
  · exact Nat.le_trans lA (by omega)
  · exact Nat.le_trans lD (by omega)
  · exact Nat.le_trans (tx a ha) (by omega)
  · show f.F % 60 < 60; omega
  · show f.F % 60 + f.To % 60 < 119; omega

end Plait
