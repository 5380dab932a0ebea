/-
  Plain mathematics of rings, with no program in it: remainders, links and their ends, ways round.
-/
import Derived.Test.YtbghpkdkfbpmeaaGreatK1
import Derived.Test.YtbghpkdkfbpmeaaGreatK2
import Derived.Lib.SliceRun
import Derived.Test.YtbghpkdkfbpmeaaGreatK10
import Derived.Test.YtbghpkdkfbpmeaaGreatK9
namespace Plait

/-- Steps, each cut down by itself. -/
def accI (n : Int) (zs : List Int) : Int := zs.foldl (fun x s => (x + s.tmod n).tmod n) 0

theorem tmod_in (a n : Int) (hn : 0 < n) : -n < a.tmod n ∧ a.tmod n < n := by
  rcases Int.le_total 0 a with h | h
  · rw [Int.tmod_eq_emod_of_nonneg h]
    have := Int.emod_nonneg a (show n ≠ 0 by omega)
    have := Int.emod_lt_of_pos a hn
    omega
  · have e : a.tmod n = -((-a) % n) := by rw [show a = -(-a) by omega, Int.neg_tmod, Int.tmod_eq_emod_of_nonneg (by omega)]; simp
    have := Int.emod_nonneg (-a) (show n ≠ 0 by omega)
    have := Int.emod_lt_of_pos (-a) hn
    omega

theorem tmod_emod (a n : Int) : a.tmod n % n = a % n := by
  have h := Int.mul_tdiv_add_tmod a n
  have e : a.tmod n = a + n * (-(a.tdiv n)) := by rw [Int.mul_neg]; omega
  rw [e, Int.add_mul_emod_self_left]

theorem accI_in (n : Int) (hn : 0 < n) (zs : List Int) : -n < accI n zs ∧ accI n zs < n := by
  rcases List.eq_nil_or_concat zs with rfl | ⟨l, z, rfl⟩
  · simp [accI]; omega
  · unfold accI
    rw [List.concat_eq_append, List.foldl_append]
    exact tmod_in _ _ hn

theorem accI_take (n : Int) (zs : List Int) (k : Nat) (hk : k < zs.length) : accI n (zs.take (k + 1)) = (accI n (zs.take k) + zs[k].tmod n).tmod n := by
  unfold accI
  rw [List.take_succ_eq_append_getElem hk, List.foldl_append]
  rfl

theorem foldl_emod (n : Int) : ∀ (zs : List Int) (x y : Int), x % n = y % n → (zs.foldl (fun x s => (x + s.tmod n).tmod n) x) % n = (y + zs.sum) % n
  | [], x, y, h => by simpa using h
  | z :: r, x, y, h => by
    rw [List.foldl_cons, foldl_emod n r _ (y + z) (by rw [tmod_emod, Int.add_emod, tmod_emod, h, ← Int.add_emod]), List.sum_cons]
    congr 1
    omega

theorem accI_emod (n : Int) (zs : List Int) : accI n zs % n = zs.sum % n := by
  have := foldl_emod n zs 0 0 rfl
  simpa [accI] using this

theorem emod_neg (n x : Int) (h1 : -n < x) (h2 : x < 0) : x + n = x % n := by
  have e : x % n = (x + n) % n := by rw [Int.add_emod_right]
  rw [e]
  exact (Int.emod_eq_of_lt (by omega) (by omega)).symm

def distI (n f t d : Int) : Int := if d < 0 then (f - t) % n else (t - f) % n
def endA (n l : Int) : Int := if l < n then l else l - n
def endB (n l : Int) : Int := if l < n then (l + 1) % n else (l - n + 2) % n

def nodeI (n x : Int) : Bool := decide (0 ≤ x) && decide (x < n)

/-- The link between two nodes, as the program looks for it. -/
def linkI (n a b : Int) : Int × Bool :=
  if nodeI n a && nodeI n b then
    if (b - a) % n = 1 then (a, true) else if (b - a) % n = 2 then (n + a, true) else if (a - b) % n = 1 then (b, true) else if (a - b) % n = 2 then (n + b, true) else (0, false)
  else (0, false)

/-- A link joins them. -/
def joins (n a b k : Int) : Bool := endA n k == a && endB n k == b || endA n k == b && endB n k == a

/-- The first link that joins them. -/
def linkR (n a b : Int) : Int × Bool :=
  match (List.range (2 * n).toNat).find? (fun (k : Nat) => joins n a b k) with
  | some k => (k, true)
  | none => (0, false)

theorem linkR_hit (n a b : Int) (k : Nat) (hk : (k : Int) < 2 * n) (h : joins n a b k = true) (hno : ∀ j : Nat, j < k → joins n a b j = false) : linkR n a b = ((k : Int), true) := by
  have e : (List.range (2 * n).toNat).find? (fun (k : Nat) => joins n a b k) = some k := by
    rw [List.find?_range_eq_some]
    exact ⟨h, by rw [List.mem_range]; omega, fun j hj => by simp [hno j hj]⟩
  unfold linkR
  rw [e]
theorem linkR_none (n a b : Int) (hno : ∀ j : Nat, (j : Int) < 2 * n → joins n a b j = false) : linkR n a b = (0, false) := by
  have e : (List.range (2 * n).toNat).find? (fun (k : Nat) => joins n a b k) = none := by
    rw [List.find?_eq_none]
    intro j hj
    rw [List.mem_range] at hj
    simp [hno j (by omega)]
  unfold linkR
  rw [e]

theorem endA_in (n : Int) (k : Nat) (hk : (k : Int) < 2 * n) : 0 ≤ endA n k ∧ endA n k < n := by unfold endA; split <;> omega
theorem endB_in (n k : Int) (hn : 0 < n) : 0 ≤ endB n k ∧ endB n k < n := by
  unfold endB; split <;> exact ⟨Int.emod_nonneg _ (by omega), Int.emod_lt_of_pos _ hn⟩

theorem link_fin : ∀ n : Fin 7, ∀ a b : Fin 12, linkI (6 + (n.val : Int)) a.val b.val = linkR (6 + (n.val : Int)) a.val b.val ∨ ¬ (a.val < 6 + n.val ∧ b.val < 6 + n.val) := by decide +kernel

theorem linkI_linkR (n a b : Int) (h1 : 6 ≤ n) (h2 : n ≤ 12) : linkI n a b = linkR n a b := by
  by_cases h : (0 ≤ a ∧ a < n) ∧ (0 ≤ b ∧ b < n)
  · have hf := link_fin ⟨(n - 6).toNat, by omega⟩ ⟨a.toNat, by omega⟩ ⟨b.toNat, by omega⟩
    have e1 : 6 + (((n - 6).toNat : Nat) : Int) = n := by omega
    have e2 : ((a.toNat : Nat) : Int) = a := by omega
    have e3 : ((b.toNat : Nat) : Int) = b := by omega
    simp only [e1, e2, e3] at hf
    rcases hf with hf | hf
    · exact hf
    · exfalso; apply hf; omega
  · have hno : ∀ j : Nat, (j : Int) < 2 * n → joins n a b j = false := by
      intro j hj
      have := endA_in n j hj
      have := endB_in n j (by omega)
      unfold joins
      generalize endA n j = x at *
      generalize endB n j = y at *
      by_cases ha : 0 ≤ a ∧ a < n
      · have e1 : (x == b) = false := by simp; omega
        have e2 : (y == b) = false := by simp; omega
        simp [e1, e2]
      · have e1 : (x == a) = false := by simp; omega
        have e2 : (y == a) = false := by simp; omega
        simp [e1, e2]
    rw [linkR_none n a b hno]
    unfold linkI
    rw [if_neg]
    unfold nodeI
    simp
    omega

theorem linkI_off (n a b : Int) (h : nodeI n a = false) : linkI n a b = (0, false) := by simp [linkI, h]
theorem linkI_off2 (n a b : Int) (h : nodeI n b = false) : linkI n a b = (0, false) := by simp [linkI, h]
theorem linkI_1 (n a b : Int) (h : nodeI n a = true) (h' : nodeI n b = true) (e : (b - a) % n = 1) : linkI n a b = (a, true) := by simp [linkI, h, h', e]
theorem linkI_2 (n a b : Int) (h : nodeI n a = true) (h' : nodeI n b = true) (e : (b - a) % n = 2) : linkI n a b = (n + a, true) := by simp [linkI, h, h', e]
theorem linkI_3 (n a b : Int) (h : nodeI n a = true) (h' : nodeI n b = true) (n1 : (b - a) % n ≠ 1) (n2 : (b - a) % n ≠ 2) (e : (a - b) % n = 1) : linkI n a b = (b, true) := by simp [linkI, h, h', n1, n2, e]
theorem linkI_4 (n a b : Int) (h : nodeI n a = true) (h' : nodeI n b = true) (n1 : (b - a) % n ≠ 1) (n2 : (b - a) % n ≠ 2) (e : (a - b) % n = 2) : linkI n a b = (n + b, true) := by simp [linkI, h, h', n1, n2, e]
theorem linkI_5 (n a b : Int) (h : nodeI n a = true) (h' : nodeI n b = true) (n1 : (b - a) % n ≠ 1) (n2 : (b - a) % n ≠ 2) (n3 : (a - b) % n ≠ 1) (n4 : (a - b) % n ≠ 2) : linkI n a b = (0, false) := by simp [linkI, h, h', n1, n2, n3, n4]

/-- So many nodes as they are reached from one. -/
def walkTo (n f d : Int) (k : Nat) : List Int := (List.range k).map fun (j : Nat) => (f + ((j : Int) + 1) * d) % n
theorem walkTo_succ (n f d : Int) (k : Nat) : walkTo n f d (k + 1) = walkTo n f d k ++ [(f + ((k : Int) + 1) * d) % n] := by simp [walkTo, List.range_succ]
theorem walkTo_len (n f d : Int) (k : Nat) : (walkTo n f d k).length = k := by simp [walkTo]
theorem walkTo_in (n f d : Int) (k : Nat) (hn : 0 < n) : ∀ z ∈ walkTo n f d k, 0 ≤ z ∧ z < n := by
  intro z hz
  unfold walkTo at hz
  rw [List.mem_map] at hz
  obtain ⟨j, _, rfl⟩ := hz
  exact ⟨Int.emod_nonneg _ (by omega), Int.emod_lt_of_pos _ hn⟩

/-- The owner from which a way goes. -/
def lastI (os : List Int) (d : Int) : Int := if d < 0 then os.headD 0 else os.getLastD 0

/-- The others, as they are reached. -/
def wayI (n : Int) (os : List Int) (d : Int) : List Int := if os = [] then [] else (walkTo n (lastI os d) d (n.toNat - 1)).filter fun x => !inB os x

/-- The same, as the document's own text has it. -/
def wayR (n : Int) (os : List Int) (d : Int) : List Int := if os = [] then [] else walkTo n (lastI os d) d (n.toNat - os.length)

theorem way1_fin : ∀ n : Fin 7, ∀ a : Fin 12, ∀ up : Bool, wayI (6 + (n.val : Int)) [(a.val : Int)] (if up then 1 else -1) = wayR (6 + (n.val : Int)) [(a.val : Int)] (if up then 1 else -1) ∨ ¬ (a.val < 6 + n.val) := by decide +kernel
theorem way2_fin : ∀ n : Fin 7, ∀ a : Fin 12, ∀ up : Bool, wayI (6 + (n.val : Int)) [(a.val : Int), ((a.val : Int) + 1) % (6 + (n.val : Int))] (if up then 1 else -1) = wayR (6 + (n.val : Int)) [(a.val : Int), ((a.val : Int) + 1) % (6 + (n.val : Int))] (if up then 1 else -1) ∨ ¬ (a.val < 6 + n.val) := by decide +kernel

/-- Owners as they may be: one, or one and the next. -/
def OwnersOk (n : Int) (os : List Int) : Prop := ∃ a, 0 ≤ a ∧ a < n ∧ (os = [a] ∨ os = [a, (a + 1) % n])

theorem wayI_wayR (n : Int) (os : List Int) (d : Int) (h1 : 6 ≤ n) (h2 : n ≤ 12) (ho : OwnersOk n os) (hd : d = 1 ∨ d = -1) : wayI n os d = wayR n os d := by
  obtain ⟨a, a0, a1, ho⟩ := ho
  have e1 : 6 + (((n - 6).toNat : Nat) : Int) = n := by omega
  have e2 : ((a.toNat : Nat) : Int) = a := by omega
  have hd' : ∃ up : Bool, d = if up then 1 else -1 := by rcases hd with rfl | rfl; exact ⟨true, rfl⟩; exact ⟨false, rfl⟩
  obtain ⟨up, rfl⟩ := hd'
  rcases ho with rfl | rfl
  · have hf := way1_fin ⟨(n - 6).toNat, by omega⟩ ⟨a.toNat, by omega⟩ up
    simp only [e1, e2] at hf
    rcases hf with hf | hf
    · exact hf
    · exfalso; apply hf; omega
  · have hf := way2_fin ⟨(n - 6).toNat, by omega⟩ ⟨a.toNat, by omega⟩ up
    simp only [e1, e2] at hf
    rcases hf with hf | hf
    · exact hf
    · exfalso; apply hf; omega

end Plait
/-
  Plain mathematics of the one locus, with no program in it: what is allowed, whom it hits, what it emits, how its clock seems.
-/
namespace Plait

structure Ac where
  H : Int
  N : Int
  T : List UInt8
deriving Inhabited, DecidableEq

structure Fa where
  K : Int
  At : Int
  F : Int
  To : Int
  A : List Ac
  D : List Int

/-- How many places there are of a kind. -/
def placesI (c : Cf) (k : Int) : Int := if k = 1 then c.N else if k = 2 then 2 * c.N else 1
def knownL (f : Fa) : Bool := f.K == 0 || f.K == 1 || f.K == 2
def placeL (c : Cf) (f : Fa) : Bool := decide (0 ≤ f.At) && decide (f.At < placesI c f.K)
def roundsL (f : Fa) : Bool := decide (0 ≤ f.F) && decide (f.F ≤ f.To) && decide (f.To ≤ 1000)
def longA (a : Ac) : Bool := decide (1000 < a.T.length)
def longL (f : Fa) : Bool := decide ((40 : Int) < (f.A.length : Int)) || decide ((40 : Int) < (f.D.length : Int)) || f.A.any longA
def checkL (c : Cf) (f : Fa) : Int := if knownL f then if placeL c f && roundsL f then if longL f then 2 else 0 else 1 else 6

theorem checkL_k (c : Cf) (f : Fa) (h : knownL f = false) : checkL c f = 6 := by simp [checkL, h]
theorem checkL_p (c : Cf) (f : Fa) (h : knownL f = true) (h2 : (placeL c f && roundsL f) = false) : checkL c f = 1 := by unfold checkL; rw [h, h2]; rfl
theorem checkL_l (c : Cf) (f : Fa) (h : knownL f = true) (h2 : (placeL c f && roundsL f) = true) : checkL c f = if longL f then 2 else 0 := by unfold checkL; rw [h, h2]; rfl

/-- One that may be. -/
structure Fa.Ok (c : Cf) (f : Fa) : Prop where
  k : f.K = 0 ∨ f.K = 1 ∨ f.K = 2
  a0 : 0 ≤ f.At
  a1 : f.At < placesI c f.K
  f0 : 0 ≤ f.F
  f1 : f.F ≤ f.To
  t1 : f.To ≤ 1000
  lA : f.A.length ≤ 40
  lD : f.D.length ≤ 40
  texts : ∀ a ∈ f.A, a.T.length ≤ 1000

theorem Fa.Ok.check {c : Cf} {f : Fa} (h : f.Ok c) : checkL c f = 0 := by
  obtain ⟨k, a0, a1, f0, f1, t1, lA, lD, tx⟩ := h
  have e1 : knownL f = true := by unfold knownL; rcases k with k | k | k <;> simp [k]
  have e2 : (placeL c f && roundsL f) = true := by unfold placeL roundsL; simp; omega
  have e3 : longL f = false := by
    unfold longL
    have : f.A.any longA = false := by
      rw [List.any_eq_false]
      intro a ha
      have := tx a ha
      unfold longA
      simp; omega
    rw [this]
    simp; omega
  rw [checkL_l c f e1 e2, e3]
  rfl

def hitsB (c : Cf) (f : Fa) (a b : Int) : Bool := if f.K = 1 then f.At == a else if f.K = 2 then (linkI c.N a b).2 && (linkI c.N a b).1 == f.At else false
def atB (f : Fa) (i : Int) : Bool := f.K == 1 && f.At == i
def rightB (f : Fa) (r i : Int) : Bool := decide (f.To ≤ r) || !atB f i

/-- The frame of one that took nothing but null frames. -/
def freshF (c : Cf) (r s : Int) : Fr := ⟨3, wireI c r, s, ⟨1, 0⟩, if s < c.N then List.replicate (slotsI c).toNat ⟨1, 0⟩ else []⟩
def dataF (c : Cf) (r s : Int) (b : List UInt8) : Fr := if (readF c b).2 = 0 ∧ (readF c b).1.K = 3 then (readF c b).1 else freshF c r s
def payF (f : Fr) (n : Int) : Fr := { f with P := ⟨2, n % 256⟩ }
def echF (f : Fr) (n : Int) : Fr := { f with E := List.replicate f.E.length ⟨2, n % 256⟩ }
def turnedL (b : List UInt8) (n : Int) : List UInt8 := if b = [] then [] else clean (turn b (n % (b.length : Int)))
def actL (c : Cf) (a : Ac) (r s : Int) (b : List UInt8) : List UInt8 :=
  if a.H % 7 = 1 then b else if a.H % 7 = 2 then b.take (a.N % ((b.length : Int) + 1)).toNat else if a.H % 7 = 3 then clean a.T else if a.H % 7 = 4 then turnedL b a.N
  else if a.H % 7 = 5 then textF (payF (dataF c r s b) a.N) else if a.H % 7 = 6 then textF (echF (dataF c r s b) a.N) else []
def pickA (A : List Ac) (n : Int) : Ac := A.getD (n % (A.length : Int)).toNat default
def pickI (D : List Int) (n : Int) : Int := D.getD (n % (D.length : Int)).toNat 0
def emitL (c : Cf) (f : Fa) (r s a b : Int) (base : List UInt8) : List UInt8 :=
  if hitsB c f a b = false ∨ f.To ≤ r then base else if r < f.F ∨ f.A = [] then [] else actL c (pickA f.A (17 * r + 5 * s + b)) r s base
def clampI (w x : Int) : Int := max (-w) (min x w)
def devL (c : Cf) (f : Fa) (r o i dev : Int) : Int :=
  if r < f.F ∨ f.To ≤ r ∨ atB f o = false then dev else if f.D = [] then 0 else clampI (3 * windowI c) (pickI f.D (13 * r + i))

theorem readF_ok (c : Cf) (l : List UInt8) : (readF c l).1.Ok c ∨ (readF c l).1 = zeroF := by
  unfold readF
  split
  · exact .inr rfl
  · unfold readB
    split
    · exact .inr rfl
    · split
      · exact .inr rfl
      · split
        · exact .inr rfl
        · rename_i h4
          exact .inl (Fr.Ok.of (by simpa using h4))

theorem readF_ok3 {c : Cf} {l : List UInt8} (h3 : (readF c l).1.K = 3) : (readF c l).1.Ok c := by
  rcases readF_ok c l with h | h
  · exact h
  · rw [h] at h3; simp [zeroF] at h3

theorem freshF_ok (c : Cf) (r s : Int) (hc : c.Ok) (s0 : 0 ≤ s) (s1 : s < slotsI c) : (freshF c r s).Ok c where
  s0 := s0
  s1 := s1
  r0 := by show 0 ≤ wireI c r; unfold wireI; omega
  r1 := by show wireI c r < 65536; unfold wireI; omega
  k1 := by show (1 : Int) ≤ 3; omega
  k3 := by show (3 : Int) ≤ 3; omega
  kp := .inl rfl
  p := rfl
  pz := .inl rfl
  len := by
    have h6 := hc.n6
    show ((if s < c.N then List.replicate (slotsI c).toNat (⟨1, 0⟩ : It) else []).length : Int) = echoI c 3 s
    unfold echoI
    by_cases h : s < c.N
    · rw [if_pos h, if_pos ⟨rfl, h⟩, List.length_replicate]
      unfold slotsI; omega
    · rw [if_neg h, if_neg (by simp [h])]
      rfl
  all := by
    intro i hi
    change i ∈ (if s < c.N then List.replicate (slotsI c).toNat (⟨1, 0⟩ : It) else []) at hi
    split at hi
    · rw [List.eq_of_mem_replicate hi]; rfl
    · simp at hi

theorem dataF_ok (c : Cf) (r s : Int) (b : List UInt8) (hc : c.Ok) (s0 : 0 ≤ s) (s1 : s < slotsI c) : (dataF c r s b).Ok c ∧ (dataF c r s b).K = 3 := by
  unfold dataF
  split
  · rename_i h
    exact ⟨readF_ok3 h.2, h.2⟩
  · exact ⟨freshF_ok c r s hc s0 s1, rfl⟩

theorem payF_ok {c : Cf} {f : Fr} (h : f.Ok c) (hK : f.K = 3) (n : Int) : (payF f n).Ok c where
  s0 := h.s0
  s1 := h.s1
  r0 := h.r0
  r1 := h.r1
  k1 := h.k1
  k3 := h.k3
  kp := h.kp
  p := by
    show itemB ⟨2, n % 256⟩ (f.K == 3) = true
    unfold itemB
    simp
    omega
  pz := .inl hK
  len := h.len
  all := h.all

theorem echF_ok {c : Cf} {f : Fr} (h : f.Ok c) (n : Int) : (echF f n).Ok c where
  s0 := h.s0
  s1 := h.s1
  r0 := h.r0
  r1 := h.r1
  k1 := h.k1
  k3 := h.k3
  kp := h.kp
  p := h.p
  pz := h.pz
  len := by show ((List.replicate f.E.length (⟨2, n % 256⟩ : It)).length : Int) = _; rw [List.length_replicate]; exact h.len
  all := by
    intro i hi
    rw [List.eq_of_mem_replicate hi]
    unfold itemB
    simp
    omega

/-- The locus that the laws make of any one. -/
def cutA (a : Ac) : Ac := ⟨a.H, a.N, a.T.take 300⟩
def makeL (c : Cf) (f : Fa) : Fa :=
  ⟨f.K % 3, if f.K % 3 = 1 then f.At % c.N else if f.K % 3 = 2 then f.At % (2 * c.N) else 0, f.F % 60, f.F % 60 + f.To % 60, (f.A.take 10).map cutA, f.D.take 10⟩
def fewL (f : Fa) : Bool := f.A.all (fun a => decide (a.T.length ≤ 1200)) && decide (f.A.length ≤ 50) && decide (f.D.length ≤ 50)

/-- More than Ok: the numbers are small. -/
structure Fa.Small (c : Cf) (f : Fa) : Prop where
  ok : f.Ok c
  f60 : f.F < 60
  t119 : f.To < 119
  lA : f.A.length ≤ 10
  lD : f.D.length ≤ 10
  texts : ∀ a ∈ f.A, a.T.length ≤ 300

theorem makeL_small (c : Cf) (f : Fa) (hc : c.Ok) : (makeL c f).Small c := by
  have h6 := hc.n6
  have b1 := Int.emod_nonneg f.At (show c.N ≠ 0 by omega)
  have b2 := Int.emod_lt_of_pos f.At (show 0 < c.N by omega)
  have b3 := Int.emod_nonneg f.At (show 2 * c.N ≠ 0 by omega)
  have b4 := Int.emod_lt_of_pos f.At (show 0 < 2 * c.N by omega)
  have lA : ((f.A.take 10).map cutA).length ≤ 10 := by simp; omega
  have lD : (f.D.take 10).length ≤ 10 := by simp; omega
  have tx : ∀ a ∈ (f.A.take 10).map cutA, a.T.length ≤ 300 := by
    intro a ha
    obtain ⟨x, _, rfl⟩ := List.mem_map.1 ha
    unfold cutA
    simp; omega
  refine ⟨⟨?_, ?_, ?_, ?_, ?_, ?_, ?_, ?_, fun a ha => ?_⟩, ?_, ?_, lA, lD, tx⟩
  · show f.K % 3 = 0 ∨ f.K % 3 = 1 ∨ f.K % 3 = 2; omega
  · show 0 ≤ if f.K % 3 = 1 then f.At % c.N else if f.K % 3 = 2 then f.At % (2 * c.N) else 0
    split
    · omega
    · split <;> omega
  · show (if f.K % 3 = 1 then f.At % c.N else if f.K % 3 = 2 then f.At % (2 * c.N) else 0) < if f.K % 3 = 1 then c.N else if f.K % 3 = 2 then 2 * c.N else 1
    split
    · omega
    · split <;> omega
  · show 0 ≤ f.F % 60; omega
  · show f.F % 60 ≤ f.F % 60 + f.To % 60; omega
  · show f.F % 60 + f.To % 60 ≤ 1000; omega
  · exact Nat.le_trans lA (by omega)
  · exact Nat.le_trans lD (by omega)
  · exact Nat.le_trans (tx a ha) (by omega)
  · show f.F % 60 < 60; omega
  · show f.F % 60 + f.To % 60 < 119; omega

end Plait
/-
  Contracts of package ring, first part: steps round a ring, how far it is, a link's ends, the link between two nodes.
-/
namespace Go.Proofs.YtbghpkdkfbpmeaaGreat
open Go.RowKit Plait
set_option maxRecDepth 100000
set_option linter.unusedVariables false

theorem gholds_any (n x : Int) (w : World) : Calls Tryz.prog 131 #[.int .i64 n, .int .i64 x] w fun e w' => e = .returned (.bool (nodeI n x)) ∧ w = w' := by
  have HF := Lib.hid (show (decide (0 ≤ x) && decide (x < n)) = nodeI n x from rfl)
  by_cases h : 0 ≤ x
  · go_enter Tryz.func131, Tryz.ntmps131
    go_wp2
    go_ret
    exact ⟨ret_bool (by rw [← HF.out]; simp [h]), rfl⟩
  · have hd : decide (0 ≤ x) = false := by simpa using h
    go_enter Tryz.func131, Tryz.ntmps131
    go_wp2
    go_ret
    exact ⟨ret_bool (by rw [← HF.out]; simp [hd]), rfl⟩

/-- The loop over the steps. -/
def StepAt (n : Int) (zs : List Int) (x i : Value) : Prop := ∃ k : Nat, k ≤ zs.length ∧ i = .int .i64 k ∧ x = .int .i64 (accI n (zs.take k))

set_option maxHeartbeats 1600000 in
theorem gat_any (n : Int) (a : Option Addr) (zs : List Int) (cap : Nat) (w : World) (hn : 0 < n) (hn2 : n ≤ 1099511627776) (hrow : Row w a zs) :
    Calls Tryz.prog 133 #[.int .i64 n, .slice a zs.length cap] w fun e w' => e = .returned (.int .i64 (zs.sum % n)) ∧ w = w' := by
  have hlen := hrow.1
  go_enter Tryz.func133, Tryz.ntmps133
  go_wp2
  go_loop [6, 8, 14] (fun x _ i => StepAt n zs x i) (fun _ _ i => zs.length - (intOf i).toNat)
  case atStart => exact ⟨0, Nat.zero_le _, rfl, by simp [accI]⟩
  case round =>
    obtain ⟨k, hk, rfl, rfl⟩ := hrel
    obtain ⟨b1, b2⟩ := accI_in n hn (zs.take k)
    by_cases hlt : k < zs.length
    · have d1 : decide (k < zs.length) = true := by simpa using hlt
      obtain ⟨b, off, rfl, hbl, hcell, hz1, hz2⟩ := hrow.get k hlt
      have HS := Lib.hid (accI_take n zs k hlt)
      obtain ⟨t1, t2⟩ := tmod_in zs[k] n hn
      generalize accI n (zs.take k) = x at *
      generalize zs[k] = z at *
      go_wp2
      go_round
      case rel => exact ⟨k + 1, by omega, by go_num, by rw [HS.out]⟩
      case measure => simp [intOf]; omega
    · have d1 : decide (k < zs.length) = false := by simpa using hlt
      have HE := Lib.hid (show accI n (zs.take k) % n = zs.sum % n by rw [List.take_of_length_le (by omega)]; exact accI_emod n zs)
      generalize accI n (zs.take k) = x at *
      by_cases hx : x < 0
      · have HF := Lib.hid (emod_neg n x b1 hx)
        go_wp2
        go_ret
        exact ⟨ret_int (by rw [HF.out, HE.out]), rfl⟩
      · have HF := Lib.hid (Int.emod_eq_of_lt (show 0 ≤ x by omega) b2)
        go_wp2
        go_ret
        exact ⟨ret_int (by rw [← HE.out, HF.out]), rfl⟩

theorem made2 (w : World) (x y : Int) (hx : inI x) (hy : inI y) : Row (w.alloc (.cells #[.int .i64 x, .int .i64 y] 3)) (some ⟨w.heap.size, 0, none⟩) [x, y] := Row.made w [x, y] _ (by simp) (by simp; exact ⟨hx, hy⟩)

theorem gup_any (n a b : Int) (w : World) (hn : 0 < n) (hn2 : n ≤ 1099511627776) (ha : inI a) (ha2 : inI (-a)) (hb : inI b) :
    Calls Tryz.prog 132 #[.int .i64 n, .int .i64 a, .int .i64 b] w fun e w' => e = .returned (.int .i64 ((b - a) % n)) ∧ Below w.heap.size w w' := by
  have HC := Lib.hid (gat_any n _ [b, -a] 2 _ hn hn2 (made2 w b (-a) hb ha2))
  have z1 : IntKind.i64.wrap (-a) = -a := wrap_in _ ha2.1 ha2.2
  go_enter Tryz.func132, Tryz.ntmps132
  go_wp2_with fail
  refine HC.out.mono ?_
  rintro e wl ⟨rfl, rfl⟩
  go_wp2
  go_ret
  exact ⟨ret_int (by rw [Int.sub_eq_add_neg]), alloc_below _ _⟩

theorem ret_pair {a b c d : Int} (h : a = c) (h' : b = d) : Ending.returned (.tuple #[.int .i64 a, .int .i64 b]) = .returned (.tuple #[.int .i64 c, .int .i64 d]) := by rw [h, h']
theorem ret_found {a : Int} {b : Bool} {p : Int × Bool} (h : p = (a, b)) : Ending.returned (.tuple #[.int .i64 a, .bool b]) = .returned (.tuple #[.int .i64 p.1, .bool p.2]) := by rw [h]

/-- The loop over both orders of two nodes: the second round is reached where the first one found nothing. -/
def LinkAt (n a b : Int) (w : World) (i : Value) (w' : World) : Prop :=
  ∃ k : Nat, i = .int .i64 k ∧ Below w.heap.size w w' ∧ (k = 0 ∨ k = 1 ∧ (b - a) % n ≠ 1 ∧ (b - a) % n ≠ 2 ∨ k = 2 ∧ (b - a) % n ≠ 1 ∧ (b - a) % n ≠ 2 ∧ (a - b) % n ≠ 1 ∧ (a - b) % n ≠ 2)

set_option maxHeartbeats 3200000 in
theorem gLink_any (n a b : Int) (w : World) (hn : 0 < n) (hn2 : n ≤ 1000000) (ha : inI a) (hb : inI b) :
    Calls Tryz.prog 130 #[.int .i64 n, .int .i64 a, .int .i64 b] w fun e w' => e = .returned (.tuple #[.int .i64 (linkI n a b).1, .bool (linkI n a b).2]) ∧ Below w.heap.size w w' := by
  cases h1 : nodeI n a
  · have H1 := Lib.hid h1
    have HF := Lib.hid (linkI_off n a b h1)
    clear h1
    go_enter Tryz.func130, Tryz.ntmps130
    go_wp2_with fail
    refine (gholds_any n a _).mono ?_
    rintro e wl ⟨rfl, rfl⟩
    rw [H1.out]
    go_wp2
    go_ret2
    exact ⟨ret_found HF.out, Below.refl _ _⟩
  · cases h2 : nodeI n b
    · have H1 := Lib.hid h1
      have H2 := Lib.hid h2
      have HF := Lib.hid (linkI_off2 n a b h2)
      clear h1 h2
      go_enter Tryz.func130, Tryz.ntmps130
      go_wp2_with fail
      refine (gholds_any n a _).mono ?_
      rintro e wl ⟨rfl, rfl⟩
      rw [H1.out]
      go_wp2_with fail
      refine (gholds_any n b _).mono ?_
      rintro e wl ⟨rfl, rfl⟩
      rw [H2.out]
      go_wp2
      go_ret2
      exact ⟨ret_found HF.out, Below.refl _ _⟩
    · have H1 := Lib.hid h1
      have H2 := Lib.hid h2
      obtain ⟨a0, a1⟩ : 0 ≤ a ∧ a < n := by unfold nodeI at h1; simpa using h1
      obtain ⟨b0, b1⟩ : 0 ≤ b ∧ b < n := by unfold nodeI at h2; simpa using h2
      clear h1 h2 ha hb
      have ia : inI a := ⟨by omega, by omega⟩
      have ib : inI b := ⟨by omega, by omega⟩
      have ja : inI (-a) := ⟨by omega, by omega⟩
      have jb : inI (-b) := ⟨by omega, by omega⟩
      have x0 : ∀ w : World, (Instr.index 157 (.agg #[.int .i64 a, .int .i64 b, .int .i64 b, .int .i64 a]) (.int .i64 0)).run Tryz.prog w = .ok (.agg #[.int .i64 a, .int .i64 b]) w := fun _ => by kernel_rfl
      have x1 : ∀ w : World, (Instr.index 157 (.agg #[.int .i64 a, .int .i64 b, .int .i64 b, .int .i64 a]) (.int .i64 1)).run Tryz.prog w = .ok (.agg #[.int .i64 b, .int .i64 a]) w := fun _ => by kernel_rfl
      go_enter Tryz.func130, Tryz.ntmps130
      go_wp2_with fail
      refine (gholds_any n a _).mono ?_
      rintro e wl ⟨rfl, rfl⟩
      rw [H1.out]
      go_wp2_with fail
      refine (gholds_any n b _).mono ?_
      rintro e wl ⟨rfl, rfl⟩
      rw [H2.out]
      go_wp2
      go_loopw [10, 29] (fun _ i w' => LinkAt n a b w i w') (fun _ i _ => 2 - (intOf i).toNat)
      case atStart => exact ⟨0, rfl, Below.refl _ _, .inl rfl⟩
      case round =>
        obtain ⟨k, rfl, hB, hk⟩ := hrel
        rcases hk with rfl | ⟨rfl, n1, n2⟩ | ⟨rfl, n1, n2, n3, n4⟩
        · by_cases e1 : (b - a) % n = 1
          · have HF := Lib.hid (linkI_1 n a b H1.out H2.out e1)
            have d1 : ((b - a) % n == 1) = true := by simpa using e1
            clear e1
            go_wp2_with fail
            refine (gup_any n a b _ hn (by omega) ia ja ib).mono ?_
            rintro e wn ⟨rfl, hb⟩
            obtain ⟨hb2, hK, hZ⟩ := boxed hb
            replace hB := hB.trans (hb2.mono hB.size)
            have hQ := hK.at
            clear hb hb2
            go_wp2
            go_ret2
            exact ⟨ret_found HF.out, hB⟩
          · by_cases e2 : (b - a) % n = 2
            · have HF := Lib.hid (linkI_2 n a b H1.out H2.out e2)
              have d1 : ((b - a) % n == 1) = false := by simpa using e1
              have d2 : ((b - a) % n == 2) = true := by simpa using e2
              clear e1 e2
              go_wp2_with fail
              refine (gup_any n a b _ hn (by omega) ia ja ib).mono ?_
              rintro e wn ⟨rfl, hb⟩
              obtain ⟨hb2, hK, hZ⟩ := boxed hb
              replace hB := hB.trans (hb2.mono hB.size)
              have hQ := hK.at
              clear hb hb2
              go_wp2
              go_ret2
              exact ⟨ret_found HF.out, hB⟩
            · have d1 : ((b - a) % n == 1) = false := by simpa using e1
              have d2 : ((b - a) % n == 2) = false := by simpa using e2
              go_wp2_with fail
              refine (gup_any n a b _ hn (by omega) ia ja ib).mono ?_
              rintro e wn ⟨rfl, hb⟩
              obtain ⟨hb2, hK, hZ⟩ := boxed hb
              replace hB := hB.trans (hb2.mono hB.size)
              have hQ := hK.at
              clear hb hb2
              go_wp2
              go_roundw
              case rel => exact ⟨1, by go_num, hB, .inr (.inl ⟨rfl, e1, e2⟩)⟩
              case measure => simp [intOf]
        · by_cases e1 : (a - b) % n = 1
          · have HF := Lib.hid (linkI_3 n a b H1.out H2.out n1 n2 e1)
            have d1 : ((a - b) % n == 1) = true := by simpa using e1
            clear e1
            go_wp2_with fail
            refine (gup_any n b a _ hn (by omega) ib jb ia).mono ?_
            rintro e wn ⟨rfl, hb⟩
            obtain ⟨hb2, hK, hZ⟩ := boxed hb
            replace hB := hB.trans (hb2.mono hB.size)
            have hQ := hK.at
            clear hb hb2
            go_wp2
            go_ret2
            exact ⟨ret_found HF.out, hB⟩
          · by_cases e2 : (a - b) % n = 2
            · have HF := Lib.hid (linkI_4 n a b H1.out H2.out n1 n2 e2)
              have d1 : ((a - b) % n == 1) = false := by simpa using e1
              have d2 : ((a - b) % n == 2) = true := by simpa using e2
              clear e1 e2
              go_wp2_with fail
              refine (gup_any n b a _ hn (by omega) ib jb ia).mono ?_
              rintro e wn ⟨rfl, hb⟩
              obtain ⟨hb2, hK, hZ⟩ := boxed hb
              replace hB := hB.trans (hb2.mono hB.size)
              have hQ := hK.at
              clear hb hb2
              go_wp2
              go_ret2
              exact ⟨ret_found HF.out, hB⟩
            · have d1 : ((a - b) % n == 1) = false := by simpa using e1
              have d2 : ((a - b) % n == 2) = false := by simpa using e2
              go_wp2_with fail
              refine (gup_any n b a _ hn (by omega) ib jb ia).mono ?_
              rintro e wn ⟨rfl, hb⟩
              obtain ⟨hb2, hK, hZ⟩ := boxed hb
              replace hB := hB.trans (hb2.mono hB.size)
              have hQ := hK.at
              clear hb hb2
              go_wp2
              go_roundw
              case rel => exact ⟨2, by go_num, hB, .inr (.inr ⟨rfl, n1, n2, e1, e2⟩)⟩
              case measure => simp [intOf]
        · have HF := Lib.hid (linkI_5 n a b H1.out H2.out n1 n2 n3 n4)
          go_wp2
          go_ret2
          exact ⟨ret_found HF.out, hB⟩

end Go.Proofs.YtbghpkdkfbpmeaaGreat
/-
  Contracts of package ring, second part: who is among the owners, the walk round, what is struck out of it, ways.
-/
namespace Go.Proofs.YtbghpkdkfbpmeaaGreat
open Go.RowKit Plait
set_option maxRecDepth 100000
set_option linter.unusedVariables false

/-- The loop of a search: none ahead of k. -/
def NoneTo (zs : List Int) (p : Int → Bool) (k : Nat) : Prop := ∀ j (h : j < zs.length), j < k → p zs[j] = false

/-- What a search answers. -/
def Found (zs : List Int) (p : Int → Bool) (r : Int) : Prop := (r = -1 ∧ NoneTo zs p zs.length) ∨ ∃ k : Nat, ∃ h : k < zs.length, r = (k : Int) ∧ p zs[k] = true ∧ NoneTo zs p k

theorem NoneTo.succ {zs : List Int} {p : Int → Bool} {k : Nat} (h : NoneTo zs p k) (hk : k < zs.length) (hp : p zs[k] = false) : NoneTo zs p (k + 1) := by
  intro j hj hlt
  by_cases e : j = k
  · subst e; exact hp
  · exact h j hj (by omega)

theorem found_inB (zs : List Int) (x r : Int) (h : Found zs (fun z => x == z) r) : decide (0 ≤ r) = inB zs x := by
  rcases h with ⟨rfl, h⟩ | ⟨k, hk, rfl, he, _⟩
  · have : inB zs x = false := by
      unfold inB
      rw [Bool.eq_false_iff]
      intro hc
      rw [List.contains_iff_mem] at hc
      obtain ⟨j, hj, e⟩ := List.getElem_of_mem hc
      have := h j hj hj
      simp [e] at this
    rw [this]; rfl
  · have : inB zs x = true := by
      unfold inB
      rw [List.contains_iff_mem, eq_of_beq he]
      exact List.getElem_mem hk
    rw [this]; simp

theorem lastI_neg (zs : List Int) (d : Int) (h : d < 0) (hz : 0 < zs.length) : zs[0] = lastI zs d := by
  unfold lastI
  rw [if_pos h]
  cases zs with
  | nil => simp at hz
  | cons y r => rfl
theorem lastI_pos (zs : List Int) (d : Int) (h : ¬ d < 0) (hz : zs.length - 1 < zs.length) : zs[zs.length - 1] = lastI zs d := by
  unfold lastI
  rw [if_neg h, List.getLastD_eq_getLast?, List.getLast?_eq_getElem?, List.getElem?_eq_getElem hz]
  rfl

/-- What a call answers that makes a row which it may yet write. -/
def OwnRet7 (zs : List Int) (w : World) (e : Ending) (w' : World) : Prop := ∃ v, e = .returned v ∧ OwnI w.heap.size w' v zs ∧ Below w.heap.size w w'

/-- The loop that gathers the walk. -/
def WalkAt (n f d : Int) (w : World) (v i : Value) (w' : World) : Prop :=
  ∃ k : Nat, (k : Int) + 1 ≤ n ∧ i = .int .i64 ((k : Int) + 1) ∧ Below w.heap.size w w' ∧ OwnI w.heap.size w' v (walkTo n f d k)

/-- Numbers at the start of a block that may be written. -/
def Lies (w : World) (g : Nat) (ys : List Int) : Prop := ∃ cs, Blk w g 3 cs ∧ ∀ i (h : i < ys.length), cs[i]? = some (.int .i64 ys[i])

theorem Lies.cell {w : World} {g : Nat} {ys : List Int} (h : Lies w g ys) (i : Nat) (hi : i < ys.length) : w.cell? ⟨g, i, none⟩ = some (.int .i64 ys[i]) := by
  obtain ⟨cs, hB, hc⟩ := h
  rw [hB.at, hc i hi]
theorem Lies.frozen {w : World} {g : Nat} {ys : List Int} (h : Lies w g ys) (i : Nat) : w.frozen? ⟨g, i, none⟩ = false := by
  obtain ⟨cs, hB, hc⟩ := h
  exact hB.frozen i
theorem Lies.lt {w : World} {g : Nat} {ys : List Int} (h : Lies w g ys) : g < w.heap.size := by
  obtain ⟨cs, hB, hc⟩ := h
  exact hB.lt
theorem Lies.set {w : World} {g : Nat} {ys : List Int} (h : Lies w g ys) (i : Nat) (x : Int) : Lies (w.setCell ⟨g, i, none⟩ (.int .i64 x)) g (ys.set i x) := by
  obtain ⟨cs, hB, hc⟩ := h
  refine ⟨_, hB.set i _, fun j hj => ?_⟩
  rw [List.length_set] at hj
  have hs := hc j hj
  obtain ⟨hlt, _⟩ := Array.getElem?_eq_some_iff.1 hs
  by_cases e : i = j
  · subst e
    rw [Array.getElem?_setIfInBounds_self_of_lt hlt]
    simp
  · rw [Array.getElem?_setIfInBounds_ne e, hs, List.getElem_set_ne e]
theorem Lies.take {w : World} {g : Nat} {ys : List Int} (h : Lies w g ys) (k : Nat) : Lies w g (ys.take k) := by
  obtain ⟨cs, hB, hc⟩ := h
  refine ⟨cs, hB, fun j hj => ?_⟩
  rw [List.length_take] at hj
  rw [List.getElem_take]
  exact hc j (by omega)
theorem Lies.row {w : World} {g : Nat} {ys : List Int} (h : Lies w g ys) (hl : ys.length ≤ 9223372036854775807) (hz : ∀ z ∈ ys, -9223372036854775808 ≤ z ∧ z ≤ 9223372036854775807) : Row w (some ⟨g, 0, none⟩) ys :=
  ⟨hl, hz, .inr ⟨g, 0, rfl, h.lt, fun i hi => by rw [Nat.zero_add]; exact h.cell i hi⟩⟩
theorem OwnI.lies {base : Nat} {w : World} {v : Value} {zs : List Int} (h : OwnI base w v zs) (hz : 0 < zs.length) : ∃ g cap, v = .slice (some ⟨g, 0, none⟩) zs.length cap ∧ zs.length ≤ cap ∧ cap ≤ maxLen ∧ base ≤ g ∧ Lies w g zs := by
  rcases h.2 with ⟨_, h0⟩ | ⟨g, cap, cur, hv, hg, hb, hcap, hmax, hsz, ht⟩
  · omega
  · refine ⟨g, cap, hv, hcap, hmax, hg, cur, hb, fun i hi => ?_⟩
    have e : (cur.toList.take (zs.length * 1))[i]? = (zs.map (Value.int .i64))[i]? := by rw [ht]
    rw [List.getElem?_take, if_pos (by omega)] at e
    simpa [hi] using e

/-- Behind the last kept number all is nought. -/
theorem setCells_lies (base : Nat) : ∀ (vs : List Value) (o : Nat) (w a : World) (g : Nat) (ys : List Int), base ≤ g → Below base a w → Lies w g ys → ys.length ≤ o → Below base a (w.setCells g o vs) ∧ Lies (w.setCells g o vs) g ys
  | [], _, _, _, _, _, _, hb, hl, _ => ⟨hb, hl⟩
  | v :: r, o, w, a, g, ys, hg, hb, hl, ho => by
    refine setCells_lies base r (o + 1) (w.setCell ⟨g, o, none⟩ v) a g ys hg (hb.setCell hg v) ?_ (by omega)
    obtain ⟨cs, hB, hc⟩ := hl
    refine ⟨_, hB.set o _, fun j hj => ?_⟩
    rw [Array.getElem?_setIfInBounds_ne (by omega)]
    exact hc j hj

/-- What the loop has kept: i of the first j. -/
structure Kept (zs os ys : List Int) (i j : Nat) : Prop where
  len : ys.length = zs.length
  lt : i < j
  le : j ≤ zs.length
  low : ys.take i = (zs.take j).filter fun x => !inB os x
  high : ys.drop j = zs.drop j

theorem filter_none (os : List Int) : ∀ (zs : List Int) (k : Nat), NoneTo zs (inB os) k → (zs.take k).filter (fun x => !inB os x) = zs.take k := by
  intro zs k h
  rw [List.filter_eq_self]
  intro x hx
  obtain ⟨j, hj, rfl⟩ := List.getElem_of_mem hx
  rw [List.length_take] at hj
  rw [List.getElem_take]
  simp [h j (by omega) (by omega)]

theorem Kept.start {zs os : List Int} {k : Nat} (hk : k < zs.length) (hp : inB os zs[k] = true) (hno : NoneTo zs (inB os) k) : Kept zs os zs k (k + 1) := by
  refine ⟨rfl, by omega, by omega, ?_, rfl⟩
  rw [List.take_succ_eq_append_getElem hk, List.filter_append, filter_none os zs k hno]
  simp [hp]
theorem Kept.at {zs os ys : List Int} {i j : Nat} (h : Kept zs os ys i j) (hj : j < zs.length) (hj' : j < ys.length) : ys[j] = zs[j] := by
  have e : (ys.drop j)[0]? = (zs.drop j)[0]? := by rw [h.high]
  rw [List.getElem?_drop, List.getElem?_drop, Nat.add_zero, List.getElem?_eq_getElem hj, List.getElem?_eq_getElem hj'] at e
  exact Option.some.inj e
theorem Kept.skip {zs os ys : List Int} {i j : Nat} (h : Kept zs os ys i j) (hj : j < zs.length) (hp : inB os zs[j] = true) : Kept zs os ys i (j + 1) := by
  refine ⟨h.len, by have := h.lt; omega, by omega, ?_, ?_⟩
  · rw [List.take_succ_eq_append_getElem hj, List.filter_append, ← h.low]
    simp [hp]
  · have e := congrArg (List.drop 1) h.high
    rw [List.drop_drop, List.drop_drop] at e
    exact e
theorem Kept.keep {zs os ys : List Int} {i j : Nat} (h : Kept zs os ys i j) (hj : j < zs.length) (hp : inB os zs[j] = false) : Kept zs os (ys.set i zs[j]) (i + 1) (j + 1) := by
  have h1 := h.lt
  have h2 := h.len
  refine ⟨by rw [List.length_set]; exact h.len, by omega, by omega, ?_, ?_⟩
  · rw [List.take_succ_eq_append_getElem hj, List.filter_append, ← h.low]
    rw [List.take_succ_eq_append_getElem (by rw [List.length_set]; omega), List.getElem_set_self, List.take_set_of_le (by omega)]
    simp [hp]
  · have e := congrArg (List.drop 1) h.high
    rw [List.drop_drop, List.drop_drop] at e
    rw [List.drop_set_of_lt (by omega)]
    exact e
theorem Kept.done {zs os ys : List Int} {i : Nat} (h : Kept zs os ys i zs.length) : ys.take i = zs.filter (fun x => !inB os x) ∧ i = (zs.filter fun x => !inB os x).length := by
  have e := h.low
  rw [List.take_of_length_le (Nat.le_refl _)] at e
  refine ⟨e, ?_⟩
  rw [← e, List.length_take]
  have := h.lt
  have := h.len
  omega

end Go.Proofs.YtbghpkdkfbpmeaaGreat
/-
  Contracts of package ring, third part: the owners struck out of a walk; ways.
-/
namespace Go.Proofs.YtbghpkdkfbpmeaaGreat
open Go.RowKit Plait
set_option maxRecDepth 100000
set_option linter.unusedVariables false

theorem Row.farCell {w : World} {a : Option Addr} {zs : List Int} (h : Row w a zs) {base g : Nat} (i : Nat) (u : Value) (hne : ∀ x, a = some x → x.block < base) (hg : base ≤ g) : Row (w.setCell ⟨g, i, none⟩ u) a zs :=
  h.far g i u fun x hx => by have := hne x hx; omega

/-- The loop that strikes out. -/
def StrikeAt (zs os : List Int) (O : Option Addr) (base g : Nat) (w : World) (a b : Value) (w' : World) : Prop :=
  ∃ (i j : Nat) (ys : List Int), a = .int .i64 i ∧ b = .int .i64 j ∧ Kept zs os ys i j ∧ Lies w' g ys ∧ Row w' O os ∧ Below base w w'

theorem lastI_in (n : Int) (os : List Int) (d : Int) (h : 0 < os.length) (ho : ∀ z ∈ os, 0 ≤ z ∧ z < n) : 0 ≤ lastI os d ∧ lastI os d < n := by
  by_cases hd : d < 0
  · rw [← lastI_neg os d hd h]
    exact ho _ (List.getElem_mem h)
  · have hl : os.length - 1 < os.length := by omega
    rw [← lastI_pos os d hd hl]
    exact ho _ (List.getElem_mem hl)

end Go.Proofs.YtbghpkdkfbpmeaaGreat
/-
  Contracts of plaitingref4: what the document's own chapter 4 answers of rings.
-/
namespace Go.Proofs.YtbghpkdkfbpmeaaGreat
open Go.RowKit Plait
set_option maxRecDepth 100000
set_option linter.unusedVariables false

theorem rrest_any (a n : Int) (w : World) (hn : 0 < n) (hn2 : n ≤ 1099511627776) :
    Calls Tryz.prog 30 #[.int .i64 a, .int .i64 n] w fun e w' => e = .returned (.int .i64 (a % n)) ∧ w = w' := by
  have b1 : 0 ≤ a % n := Int.emod_nonneg _ (by omega)
  have b2 : a % n < n := Int.emod_lt_of_pos _ hn
  by_cases h0 : 0 ≤ a
  · go_enter Tryz.func30, Tryz.ntmps30
    go_wp2
    go_ret
    exact ⟨rfl, rfl⟩
  · have h1 : a.tmod n = -((-a) % n) := by
      rw [show a = -(-a) by omega, Int.neg_tmod, Int.tmod_eq_emod_of_nonneg (by omega)]; simp
    have c1 : 0 ≤ (-a) % n := Int.emod_nonneg _ (by omega)
    have c2 : (-a) % n < n := Int.emod_lt_of_pos _ hn
    by_cases hz : (-a) % n = 0
    · have h2 : a.tmod n = 0 := by rw [h1, hz]; rfl
      have HF := Lib.hid (show (0 : Int) = a % n by
        have : n ∣ -a := Int.dvd_of_emod_eq_zero hz
        exact (Int.emod_eq_zero_of_dvd (Int.dvd_neg.1 this)).symm)
      clear h1 hz c1 c2 b1 b2
      go_enter Tryz.func30, Tryz.ntmps30
      go_wp2
      go_ret
      exact ⟨ret_int HF.out, rfl⟩
    · obtain ⟨r, hr⟩ : ∃ r, r = (-a) % n := ⟨_, rfl⟩
      rw [← hr] at h1 c1 c2 hz
      have HF := Lib.hid (show -r + n = a % n by
        have e := Int.emod_add_mul_ediv (-a) n
        rw [← hr] at e
        have e2 : a = (-r + n) + n * (-((-a) / n) - 1) := by rw [Int.mul_sub, Int.mul_neg]; omega
        rw [e2, Int.add_mul_emod_self_left]
        exact (Int.emod_eq_of_lt (by omega) (by omega)).symm)
      clear hr b1 b2
      go_enter Tryz.func30, Tryz.ntmps30
      go_wp2
      go_ret
      exact ⟨ret_int HF.out, rfl⟩

theorem rAt_any (n i d : Int) (w : World) (hn : 0 < n) (hn2 : n ≤ 1099511627776) (h1 : -4611686018427387904 ≤ i) (h2 : i ≤ 4611686018427387903) (h3 : -4611686018427387904 ≤ d) (h4 : d ≤ 4611686018427387903) :
    Calls Tryz.prog 11 #[.int .i64 n, .int .i64 i, .int .i64 d] w fun e w' => e = .returned (.int .i64 ((i + d) % n)) ∧ w = w' := by
  go_enter Tryz.func11, Tryz.ntmps11
  go_wp2_with fail
  refine (rrest_any (i + d) n _ hn hn2).mono ?_
  rintro e wl ⟨rfl, rfl⟩
  go_wp2
  go_ret
  exact ⟨rfl, rfl⟩

theorem rEnds_any (n l : Int) (w : World) (hn : 0 < n) (hn2 : n ≤ 1099511627776) (hl : 0 ≤ l) (hl2 : l ≤ 1099511627776) :
    Calls Tryz.prog 12 #[.int .i64 n, .int .i64 l] w fun e w' => e = .returned (.tuple #[.int .i64 (endA n l), .int .i64 (endB n l)]) ∧ Below w.heap.size w w' := by
  by_cases h : l < n
  · have HA := Lib.hid (show l = endA n l by unfold endA; rw [if_pos h])
    have HB := Lib.hid (show (l + 1) % n = endB n l by unfold endB; rw [if_pos h])
    have d1 : decide (l < n) = true := by simpa using h
    go_enter Tryz.func12, Tryz.ntmps12
    go_wp2
    go_quiet (fail)
    go_wp2
    go_ret2
    exact ⟨ret_pair HA.out HB.out, below_drewN (Below.refl _ _) _⟩
  · have HA := Lib.hid (show l - n = endA n l by unfold endA; rw [if_neg h])
    have HB := Lib.hid (show (l - n + 2) % n = endB n l by unfold endB; rw [if_neg h])
    have d1 : decide (l < n) = false := by simpa using h
    go_enter Tryz.func12, Tryz.ntmps12
    go_wp2
    go_quiet (fail)
    go_wp2
    go_ret2
    exact ⟨ret_pair HA.out HB.out, below_drewN (Below.refl _ _) _⟩

/-- The loop that looks for a link. -/
def RLinkAt (n a b : Int) (w : World) (i : Value) (w' : World) : Prop := ∃ k : Nat, (k : Int) ≤ 2 * n ∧ i = .int .i64 k ∧ Below w.heap.size w w' ∧ ∀ j : Nat, j < k → joins n a b j = false

set_option maxHeartbeats 3200000 in
theorem rLink_any (n a b : Int) (w : World) (h1 : 6 ≤ n) (h2 : n ≤ 12) :
    Calls Tryz.prog 41 #[.int .i64 n, .int .i64 a, .int .i64 b] w fun e w' => e = .returned (.tuple #[.int .i64 (linkI n a b).1, .bool (linkI n a b).2]) ∧ Below w.heap.size w w' := by
  have HE := Lib.hid (linkI_linkR n a b h1 h2)
  go_enter Tryz.func41, Tryz.ntmps41
  go_wp2
  go_loopw [8, 9, 10] (fun i _ _ w' => RLinkAt n a b w i w') (fun i _ _ _ => 24 - (intOf i).toNat)
  case atStart => exact ⟨0, by omega, rfl, Below.refl _ _, fun j hj => absurd hj (by omega)⟩
  case round =>
    obtain ⟨k, hk, rfl, hb, hno⟩ := hrel
    have HN := Lib.hid hno
    clear hno
    by_cases hlt : (k : Int) < 2 * n
    · have d1 : decide ((k : Int) < 2 * n) = true := by simpa using hlt
      go_wp2_with fail
      refine (rEnds_any n k _ (by omega) (by omega) (by omega) (by omega)).mono ?_
      rintro e wn ⟨rfl, hb2⟩
      replace hb := hb.trans (hb2.mono hb.size)
      clear hb2
      have HJ := Lib.hid (show joins n a b k = (endA n k == a && endB n k == b || endA n k == b && endB n k == a) from rfl)
      generalize endA n k = x at *
      generalize endB n k = y at *
      have yes : (x == a && y == b || x == b && y == a) = true → linkI n a b = ((k : Int), true) := fun h => by rw [HE.out]; exact linkR_hit n a b k hlt (by rw [HJ.out]; exact h) HN.out
      have no : (x == a && y == b || x == b && y == a) = false → ∀ j : Nat, j < k + 1 → joins n a b j = false := fun h j hj => by
        by_cases e : j = k
        · rw [e, HJ.out]; exact h
        · exact HN.out j (by omega)
      have Y := Lib.hid yes
      have O := Lib.hid no
      clear yes no
      cases c1 : (x == a) <;> cases c2 : (y == b) <;> cases c3 : (x == b) <;> cases c4 : (y == a)
      all_goals (rw [c1, c2, c3, c4] at Y O)
      all_goals first
        | (have HF := Lib.hid (Y.out rfl)
           clear Y O
           go_wp2
           go_ret2
           exact ⟨ret_found HF.out, hb⟩)
        | (have HF := Lib.hid (O.out rfl)
           clear Y O
           go_wp2
           go_roundw
           case rel => exact ⟨k + 1, by omega, by go_num, hb, HF.out⟩
           case measure => simp [intOf]; omega)
    · have d1 : decide ((k : Int) < 2 * n) = false := by simpa using hlt
      have HF := Lib.hid (show linkI n a b = (0, false) by rw [HE.out]; exact linkR_none n a b fun j hj => HN.out j (by omega))
      go_wp2
      go_ret2
      exact ⟨ret_found HF.out, hb⟩

/-- The loop that gathers a way. -/
def RWayAt (n f d : Int) (m : Nat) (w : World) (v i : Value) (w' : World) : Prop :=
  ∃ k : Nat, k ≤ m ∧ i = .int .i64 ((k : Int) + 1) ∧ Below w.heap.size w w' ∧ OwnI w.heap.size w' v (walkTo n f d k)

end Go.Proofs.YtbghpkdkfbpmeaaGreat
/-
  The one locus as it lies in memory: rows of acts, its box.
-/
namespace Go.Proofs.YtbghpkdkfbpmeaaGreat
open Go.RowKit Plait
set_option maxRecDepth 100000
set_option linter.unusedVariables false

/-- A slice of acts as it lies in memory. -/
def RowA (w : World) (a : Option Addr) (ts : List Ac) : Prop :=
  ts.length ≤ 9223372036854775807 ∧ (∀ t ∈ ts, inI t.H ∧ inI t.N ∧ t.T.length ≤ 9223372036854775807) ∧
  (ts = [] ∨ ∃ b off : Nat, a = some ⟨b, off, none⟩ ∧ b < w.heap.size ∧ ∀ i (h : i < ts.length), w.cell? ⟨b, off + i * 3, none⟩ = some (.int .i64 ts[i].H) ∧ w.cell? ⟨b, off + i * 3 + 1, none⟩ = some (.int .i64 ts[i].N) ∧ w.cell? ⟨b, off + i * 3 + 2, none⟩ = some (.string ⟨ts[i].T.toArray⟩))

theorem RowA.later {w w1 : World} {a : Option Addr} {ts : List Ac} (h : RowA w a ts) (hb : Below w.heap.size w w1) : RowA w1 a ts := by
  obtain ⟨h1, h2, h3⟩ := h
  refine ⟨h1, h2, ?_⟩
  rcases h3 with h3 | ⟨b, off, e, hlt, hc⟩
  · exact .inl h3
  · exact .inr ⟨b, off, e, Nat.lt_of_lt_of_le hlt hb.size, fun i hi => ⟨by rw [hb.cell (p := ⟨b, off + i * 3, none⟩) hlt]; exact (hc i hi).1, by rw [hb.cell (p := ⟨b, off + i * 3 + 1, none⟩) hlt]; exact (hc i hi).2.1, by rw [hb.cell (p := ⟨b, off + i * 3 + 2, none⟩) hlt]; exact (hc i hi).2.2⟩⟩
theorem RowA.empty (w : World) (a : Option Addr) : RowA w a [] := ⟨by simp, by simp, .inl rfl⟩
theorem RowA.drew1 {w : World} {a : Option Addr} {ts : List Ac} (h : RowA w a ts) : RowA w.drew a ts := h.later (Below.refl _ _).drew
theorem RowA.drewN {w : World} {a : Option Addr} {ts : List Ac} (h : RowA w a ts) (n : Nat) : RowA (w.drewN n) a ts := h.later (below_drewN (Below.refl _ _) n)
theorem RowA.alloc {w : World} {a : Option Addr} {ts : List Ac} (h : RowA w a ts) (o : Obj) : RowA (w.alloc o) a ts := h.later ((Below.refl _ _).alloc (Nat.le_refl _) _)
theorem RowA.get {w : World} {a : Option Addr} {ts : List Ac} (h : RowA w a ts) (k : Nat) (hk : k < ts.length) :
    ∃ b off : Nat, a = some ⟨b, off, none⟩ ∧ b < w.heap.size ∧ w.cell? ⟨b, off + k * 3, none⟩ = some (.int .i64 ts[k].H) ∧ w.cell? ⟨b, off + k * 3 + 1, none⟩ = some (.int .i64 ts[k].N) ∧ w.cell? ⟨b, off + k * 3 + 2, none⟩ = some (.string ⟨ts[k].T.toArray⟩) ∧ inI ts[k].H ∧ inI ts[k].N ∧ ts[k].T.length ≤ 9223372036854775807 := by
  obtain ⟨_, h2, h3⟩ := h
  rcases h3 with h3 | ⟨b, off, e, hlt, hc⟩
  · rw [h3] at hk; simp at hk
  · exact ⟨b, off, e, hlt, (hc k hk).1, (hc k hk).2.1, (hc k hk).2.2, h2 _ (List.getElem_mem hk)⟩
theorem RowA.far2 {w : World} {a : Option Addr} {ts : List Ac} (h : RowA w a ts) (g i : Nat) (u : Value) (hne : ts = [] ∨ ∀ x, a = some x → x.block ≠ g) : RowA (w.setCell ⟨g, i, none⟩ u) a ts := by
  obtain ⟨h1, h2, h3⟩ := h
  refine ⟨h1, h2, ?_⟩
  rcases h3 with h3 | ⟨b, off, rfl, hlt, hc⟩
  · exact .inl h3
  · rcases hne with hne | hne
    · exact .inl hne
    · have hb : b ≠ g := hne _ rfl
      refine .inr ⟨b, off, rfl, by simpa [World.setCell] using hlt, fun i hi => ?_⟩
      have ne : ∀ x y : Nat, (⟨g, x, none⟩ : Addr) ≠ ⟨b, y, none⟩ := fun x y e => hb (by injection e with e1; exact e1.symm)
      rw [World.cell?_setCell_other _ _ _ _ (ne _ _), World.cell?_setCell_other _ _ _ _ (ne _ _), World.cell?_setCell_other _ _ _ _ (ne _ _)]
      exact hc i hi
/-- A row may be told of by the block in which it lies. -/
theorem RowA.lt {w : World} {a : Option Addr} {ts : List Ac} (h : RowA w a ts) : ts = [] ∨ ∀ x, a = some x → x.block < w.heap.size := by
  rcases h.2.2 with h3 | ⟨b, off, rfl, hlt, _⟩
  · exact .inl h3
  · exact .inr fun x hx => by injection hx with hx; subst hx; exact hlt
theorem Row.lt {w : World} {a : Option Addr} {ts : List Int} (h : Row w a ts) : ts = [] ∨ ∀ x, a = some x → x.block < w.heap.size := by
  rcases h.2.2 with h3 | ⟨b, off, rfl, hlt, _⟩
  · exact .inl h3
  · exact .inr fun x hx => by injection hx with hx; subst hx; exact hlt

/-- The cells of a locus' box, and of an act's. -/
def faBox (f : Fa) (a : Option Addr) (ac : Nat) (d : Option Addr) (dc : Nat) : Array Value := #[.int .i64 f.K, .int .i64 f.At, .int .i64 f.F, .int .i64 f.To, .slice a f.A.length ac, .slice d f.D.length dc]
def acBox (t : Ac) : Array Value := #[.int .i64 t.H, .int .i64 t.N, .string ⟨t.T.toArray⟩]
/-- What a locus' two rows are. -/
def RowsL (w : World) (f : Fa) (a d : Option Addr) : Prop := RowA w a f.A ∧ Row w d f.D
theorem RowsL.later {w w1 : World} {f : Fa} {a d : Option Addr} (h : RowsL w f a d) (hb : Below w.heap.size w w1) : RowsL w1 f a d := ⟨h.1.later hb, h.2.later hb⟩
theorem RowsL.drew1 {w : World} {f : Fa} {a d : Option Addr} (h : RowsL w f a d) : RowsL w.drew f a d := ⟨h.1.drew1, h.2.drew1⟩
theorem RowsL.alloc {w : World} {f : Fa} {a d : Option Addr} (h : RowsL w f a d) (o : Obj) : RowsL (w.alloc o) f a d := ⟨h.1.alloc o, h.2.alloc o⟩
/-- Its numbers are such as a machine holds. -/
def Fa.In (f : Fa) : Prop := inI f.K ∧ inI f.At ∧ inI f.F ∧ inI f.To

end Go.Proofs.YtbghpkdkfbpmeaaGreat
/-
  What the frames of the laws over loci use: a locus as the walks are told of it.
-/
namespace Go.Proofs.YtbghpkdkfbpmeaaGreat
open Go.ChangeShapes Go.WideShapes Go.ChangeAt Go.RowKit Go.Joins Go.Deep Plait
set_option maxRecDepth 100000
set_option linter.unusedVariables false

theorem open_act {H : Type} {enc : TypeId × Value → H} {W : World} {base fuel : Nat} {spare : Nat → Bool} {held : Bool} {cs : List Value} {x : DataW H × List MemPlace}
    (h : DataW.trod enc Tryz.prog W base spare held fuel 49 cs = some x) : ∃ t : Ac, cs = [.int .i64 t.H, .int .i64 t.N, .string ⟨t.T.toArray⟩] ∧ inI t.H ∧ inI t.N ∧ t.T.length ≤ 9223372036854775807 := by
  obtain ⟨xs, n, _, _, hcs, hlen, hg⟩ := DataW.trod_struct Tryz.underlying49 h
  have hC : Tryz.prog.cellsOf 49 = 3 := by kernel_rfl
  have k3 : Tryz.prog.cellsOf 3 = 1 := by kernel_rfl
  have k9 : Tryz.prog.cellsOf 9 = 1 := by kernel_rfl
  rw [hC] at hcs
  match cs, hcs with
  | [u0, u1, u2], _ =>
    match xs, hlen with
    | [y0, y1, y2], _ =>
      have t0 := hg 0 _ rfl
      have t1 := hg 1 _ rfl
      have t2 := hg 2 _ rfl
      simp [k3, k9] at t0 t1 t2
      obtain ⟨n0, e0, _, w0⟩ := DataW.trod_int Tryz.underlying3 t0
      obtain ⟨n1, e1, _, w1⟩ := DataW.trod_int Tryz.underlying3 t1
      obtain ⟨s, e2, _, w2⟩ := DataW.trod_string Tryz.underlying9 t2
      obtain ⟨l, rfl⟩ := bytes_list s
      simp at e0 e1 e2
      exact ⟨⟨n0, n1, l⟩, by rw [e0, e1, e2], bounds_i64 w0, bounds_i64 w1, str_le w2⟩

theorem open_acts {H : Type} {enc : TypeId × Value → H} {W : World} {base fuel : Nat} {spare : Nat → Bool} {held : Bool} {v : Value} {x : DataW H × List MemPlace}
    (h : DataW.trod enc Tryz.prog W base spare held fuel 25 [v] = some x) : ∃ (a : Option Addr) (cap : Nat) (ts : List Ac), v = .slice a ts.length cap ∧ RowA W a ts := by
  have hC : Tryz.prog.cellsOf 49 = 3 := by kernel_rfl
  rcases DataW.trod_slice Tryz.underlying25 h with ⟨hcs, _⟩ | ⟨a, len, cap, elems, rest, n, _, hcs, _, _, hl, hm, hlen, hel, _⟩
  · simp at hcs
    exact ⟨none, 0, [], by simpa using hcs, RowA.empty _ _⟩
  · simp at hcs
    rw [hC] at hel
    have each : ∀ i, i < len → ∃ t : Ac, W.cell? (a.add (i * 3)) = some (.int .i64 t.H) ∧ W.cell? ((a.add (i * 3)).add 1) = some (.int .i64 t.N) ∧ W.cell? ((a.add (i * 3)).add 2) = some (.string ⟨t.T.toArray⟩) ∧ inI t.H ∧ inI t.N ∧ t.T.length ≤ 9223372036854775807 := by
      intro i hi
      have he := hel i hi
      rw [List.getElem?_eq_getElem (by omega), Option.bind_eq_some_iff] at he
      obtain ⟨cs, h1, h2⟩ := he
      obtain ⟨t, rfl, k1, k2, k3⟩ := open_act h2
      have hc := (World.cells?_some h1).2.2
      have q1 := hc 1 (by omega)
      have q2 := hc 2 (by omega)
      refine ⟨t, ?_, by simpa using q1, by simpa using q2, k1, k2, k3⟩
      have : (a.add (i * 3)).add 0 = a.add (i * 3) := by obtain ⟨b, off, spot⟩ := a; simp [Addr.add]
      have q0' := hc 0 (by omega)
      rw [this] at q0'
      simpa using q0'
    obtain ⟨ts, htl, hts⟩ := list_of len _ each
    subst htl
    refine ⟨some a, cap, ts, hcs, by unfold maxLen at hm; omega, fun t ht => ?_, ?_⟩
    · obtain ⟨i, hi, rfl⟩ := List.getElem_of_mem ht
      exact (hts i hi).2.2.2
    · by_cases h0 : ts = []
      · exact .inl h0
      · right
        have hpos : 0 < ts.length := List.length_pos_iff.2 h0
        obtain ⟨b, off, spot⟩ := a
        have hc := (hts 0 hpos).1
        have hspot : spot = none := by simpa [Addr.add] using World.cell?_spot hc
        subst hspot
        rw [addr_at] at hc
        refine ⟨b, off, rfl, World.block_lt_of_cell? _ _ hc, fun i hi => ?_⟩
        have h1 := hts i hi
        rw [addr_at, addr_at, addr_at] at h1
        exact ⟨h1.1, h1.2.1, h1.2.2.1⟩

/-- A locus that came in. -/
theorem open_fault {H : Type} {enc : TypeId × Value → H} {W : World} {base b0 : Nat} {spare : Nat → Bool} {held : Bool} {r : Reach} {v : Value} {d : DataW H} {p : List MemPlace}
    (hv : Value.okWide Tryz.prog W r b0 27 v) (h : DataW.Trod enc Tryz.prog W base spare held 27 v d p) :
    ∃ (f : Fa) (a : Option Addr) (ac : Nat) (e : Option Addr) (dc : Nat), v = .agg #[.int .i64 f.K, .int .i64 f.At, .int .i64 f.F, .int .i64 f.To, .slice a f.A.length ac, .slice e f.D.length dc] ∧ RowA W a f.A ∧ Row W e f.D ∧ inI f.K ∧ inI f.At ∧ inI f.F ∧ inI f.To := by
  obtain ⟨cs, rfl, hsz⟩ := okWide_struct Tryz.underlying27 hv
  obtain ⟨l⟩ := cs
  have hC : Tryz.prog.cellsOf 27 = 6 := by kernel_rfl
  match l, hsz.trans hC with
  | [c0, c1, c2, c3, c4, c5], _ =>
    obtain ⟨fuel, hf⟩ := h
    obtain ⟨xs, n, _, hx, _, hlen, hg⟩ := DataW.trod_struct Tryz.underlying27 hf
    have k3 : Tryz.prog.cellsOf 3 = 1 := by kernel_rfl
    have k22 : Tryz.prog.cellsOf 22 = 1 := by kernel_rfl
    have k25 : Tryz.prog.cellsOf 25 = 1 := by kernel_rfl
    match xs, hlen with
    | [y0, y1, y2, y3, y4, y5], _ =>
      have t0 := hg 0 _ rfl
      have t1 := hg 1 _ rfl
      have t2 := hg 2 _ rfl
      have t3 := hg 3 _ rfl
      have t4 := hg 4 _ rfl
      have t5 := hg 5 _ rfl
      simp [Value.cells, k3, k22, k25] at t0 t1 t2 t3 t4 t5
      obtain ⟨n0, e0, _, w0⟩ := DataW.trod_int Tryz.underlying3 t0
      obtain ⟨n1, e1, _, w1⟩ := DataW.trod_int Tryz.underlying3 t1
      obtain ⟨n2, e2, _, w2⟩ := DataW.trod_int Tryz.underlying3 t2
      obtain ⟨n3, e3, _, w3⟩ := DataW.trod_int Tryz.underlying3 t3
      simp at e0 e1 e2 e3
      subst e0 e1 e2 e3
      obtain ⟨a, ac, ts, rfl, hr⟩ := open_acts t4
      have hrow : ∃ (a : Option Addr) (cap : Nat) (zs : List Int), c5 = .slice a zs.length cap ∧ Row W a zs := by
        rcases open_ints Tryz.underlying22 Tryz.underlying3 (by kernel_rfl) t5 with ⟨hcs, _⟩ | ⟨x, l, c, zs, hcs, _, hl, hm, hz, _, hcell, hwz⟩
        · simp at hcs
          exact ⟨none, 0, [], by simpa using hcs, Row.empty _ _⟩
        · simp at hcs
          obtain ⟨ys, e, hr⟩ := row_of hl hm (by rw [hz]; split <;> omega) hcell hwz
          exact ⟨some x, c, ys, by rw [hcs, e], hr⟩
      obtain ⟨e, dc, zs, rfl, hr2⟩ := hrow
      exact ⟨⟨n0, n1, n2, n3, ts, zs⟩, a, ac, e, dc, rfl, hr, hr2, bounds_i64 w0, bounds_i64 w1, bounds_i64 w2, bounds_i64 w3⟩

end Go.Proofs.YtbghpkdkfbpmeaaGreat
/-
  Plain mathematics of rings: a link is between its ends.
-/
namespace Plait

theorem ends_fin : ∀ n : Fin 7, ∀ k : Fin 24, k.val < 2 * (6 + n.val) → linkI (6 + (n.val : Int)) (endA (6 + (n.val : Int)) k.val) (endB (6 + (n.val : Int)) k.val) = ((k.val : Int), true) ∧ linkI (6 + (n.val : Int)) (endB (6 + (n.val : Int)) k.val) (endA (6 + (n.val : Int)) k.val) = ((k.val : Int), true) := by decide +kernel

theorem ends_any (n k : Int) (h1 : 6 ≤ n) (h2 : n ≤ 12) (k1 : 0 ≤ k) (k2 : k < 2 * n) : linkI n (endA n k) (endB n k) = (k, true) ∧ linkI n (endB n k) (endA n k) = (k, true) := by
  have hf := ends_fin ⟨(n - 6).toNat, by omega⟩ ⟨k.toNat, by omega⟩ (by show k.toNat < 2 * (6 + (n - 6).toNat); omega)
  have e1 : 6 + (((n - 6).toNat : Nat) : Int) = n := by omega
  have e2 : ((k.toNat : Nat) : Int) = k := by omega
  simp only [e1, e2] at hf
  exact hf

end Plait
