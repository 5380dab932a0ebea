/-
  Plain mathematics of rings, with no program in it: remainders, links and their ends, ways round.
-/
import Derived.Test.YtfpbijcgbknklaaConf1
namespace Plait

/-- Steps, each cut down by itself. -/
def accI (n : Int) (zs : List Int) : Int := zs.foldl (fun x s => (x + s.tmod n).tmod n) 0

theorem tmod_in (a n : Int) (hn : 0 < n) : -n < a.tmod n ∧ a.tmod n < n := by
  rcases Int.le_total 0 a with h | h
  · rw [Int.tmod_eq_emod_of_nonneg h]
    have := Int.emod_nonneg a (show n ≠ 0 by omega)
    have := Int.emod_lt_of_pos a hn
    omega
  · have e : a.tmod n = -((-a) % n) := by rw [show a = -(-a) by omega, Int.neg_tmod, Int.tmod_eq_emod_of_nonneg (by omega)]; simp
    have := Int.emod_nonneg (-a) (show n ≠ 0 by omega)
    have := Int.emod_lt_of_pos (-a) hn
    omega

theorem tmod_emod (a n : Int) : a.tmod n % n = a % n := by
  have h := Int.mul_tdiv_add_tmod a n
  have e : a.tmod n = a + n * (-(a.tdiv n)) := by rw [Int.mul_neg]; omega
  rw [e, Int.add_mul_emod_self_left]

theorem accI_in (n : Int) (hn : 0 < n) (zs : List Int) : -n < accI n zs ∧ accI n zs < n := by
  rcases List.eq_nil_or_concat zs with rfl | ⟨l, z, rfl⟩
  · simp [accI]; omega
  · unfold accI
    rw [List.concat_eq_append, List.foldl_append]
    exact tmod_in _ _ hn

theorem accI_take (n : Int) (zs : List Int) (k : Nat) (hk : k < zs.length) : accI n (zs.take (k + 1)) = (accI n (zs.take k) + zs[k].tmod n).tmod n := by
  unfold accI
  rw [List.take_succ_eq_append_getElem hk, List.foldl_append]
  rfl

theorem foldl_emod (n : Int) : ∀ (zs : List Int) (x y : Int), x % n = y % n → (zs.foldl (fun x s => (x + s.tmod n).tmod n) x) % n = (y + zs.sum) % n
  | [], x, y, h => by simpa using h
  | z :: r, x, y, h => by
    rw [List.foldl_cons, foldl_emod n r _ (y + z) (by rw [tmod_emod, Int.add_emod, tmod_emod, h, ← Int.add_emod]), List.sum_cons]
    congr 1
    omega

theorem accI_emod (n : Int) (zs : List Int) : accI n zs % n = zs.sum % n := by
  have := foldl_emod n zs 0 0 rfl
  simpa [accI] using this

theorem emod_neg (n x : Int) (h1 : -n < x) (h2 : x < 0) : x + n = x % n := by
  have e : x % n = (x + n) % n := by rw [Int.add_emod_right]
  rw [e]
  exact (Int.emod_eq_of_lt (by omega) (by omega)).symm

def distI (n f t d : Int) : Int := if d < 0 then (f - t) % n else (t - f) % n
def endA (n l : Int) : Int := if l < n then l else l - n
def endB (n l : Int) : Int := if l < n then (l + 1) % n else (l - n + 2) % n

def nodeI (n x : Int) : Bool := decide (0 ≤ x) && decide (x < n)

/-- The link between two nodes, as the program looks for it. -/
def linkI (n a b : Int) : Int × Bool :=
  if nodeI n a && nodeI n b then
    if (b - a) % n = 1 then (a, true) else if (b - a) % n = 2 then (n + a, true) else if (a - b) % n = 1 then (b, true) else if (a - b) % n = 2 then (n + b, true) else (0, false)
  else (0, false)

/-- A link joins them. -/
def joins (n a b k : Int) : Bool := endA n k == a && endB n k == b || endA n k == b && endB n k == a

/-- The first link that joins them. -/
def linkR (n a b : Int) : Int × Bool :=
  match (List.range (2 * n).toNat).find? (fun (k : Nat) => joins n a b k) with
  | some k => (k, true)
  | none => (0, false)

theorem linkR_hit (n a b : Int) (k : Nat) (hk : (k : Int) < 2 * n) (h : joins n a b k = true) (hno : ∀ j : Nat, j < k → joins n a b j = false) : linkR n a b = ((k : Int), true) := by
  have e : (List.range (2 * n).toNat).find? (fun (k : Nat) => joins n a b k) = some k := by
    rw [List.find?_range_eq_some]
    exact ⟨h, by rw [List.mem_range]; omega, fun j hj => by simp [hno j hj]⟩
  unfold linkR
  rw [e]
theorem linkR_none (n a b : Int) (hno : ∀ j : Nat, (j : Int) < 2 * n → joins n a b j = false) : linkR n a b = (0, false) := by
  have e : (List.range (2 * n).toNat).find? (fun (k : Nat) => joins n a b k) = none := by
    rw [List.find?_eq_none]
    intro j hj
    rw [List.mem_range] at hj
    simp [hno j (by omega)]
  unfold linkR
  rw [e]

theorem endA_in (n : Int) (k : Nat) (hk : (k : Int) < 2 * n) : 0 ≤ endA n k ∧ endA n k < n := by unfold endA; split <;> omega
theorem endB_in (n k : Int) (hn : 0 < n) : 0 ≤ endB n k ∧ endB n k < n := by
  unfold endB; split <;> exact ⟨Int.emod_nonneg _ (by omega), Int.emod_lt_of_pos _ hn⟩

theorem link_fin : ∀ n : Fin 7, ∀ a b : Fin 12, linkI (6 + (n.val : Int)) a.val b.val = linkR (6 + (n.val : Int)) a.val b.val ∨ ¬ (a.val < 6 + n.val ∧ b.val < 6 + n.val) := by decide +kernel

theorem linkI_linkR (n a b : Int) (h1 : 6 ≤ n) (h2 : n ≤ 12) : linkI n a b = linkR n a b := by
  by_cases h : (0 ≤ a ∧ a < n) ∧ (0 ≤ b ∧ b < n)
  · have hf := link_fin ⟨(n - 6).toNat, by omega⟩ ⟨a.toNat, by omega⟩ ⟨b.toNat, by omega⟩
    have e1 : 6 + (((n - 6).toNat : Nat) : Int) = n := by omega
    have e2 : ((a.toNat : Nat) : Int) = a := by omega
    have e3 : ((b.toNat : Nat) : Int) = b := by omega
    simp only [e1, e2, e3] at hf
    rcases hf with hf | hf
    · exact hf
    · exfalso; apply hf; omega
  · have hno : ∀ j : Nat, (j : Int) < 2 * n → joins n a b j = false := by
      intro j hj
      have := endA_in n j hj
      have := endB_in n j (by omega)
      unfold joins
      generalize endA n j = x at *
      generalize endB n j = y at *
      by_cases ha : 0 ≤ a ∧ a < n
      · have e1 : (x == b) = false := by simp; omega
        have e2 : (y == b) = false := by simp; omega
        simp [e1, e2]
      · have e1 : (x == a) = false := by simp; omega
        have e2 : (y == a) = false := by simp; omega
        simp [e1, e2]
    rw [linkR_none n a b hno]
    unfold linkI
    rw [if_neg]
    unfold nodeI
    simp
    omega

theorem linkI_off (n a b : Int) (h : nodeI n a = false) : linkI n a b = (0, false) := by simp [linkI, h]
theorem linkI_off2 (n a b : Int) (h : nodeI n b = false) : linkI n a b = (0, false) := by simp [linkI, h]
theorem linkI_1 (n a b : Int) (h : nodeI n a = true) (h' : nodeI n b = true) (e : (b - a) % n = 1) : linkI n a b = (a, true) := by simp [linkI, h, h', e]
theorem linkI_2 (n a b : Int) (h : nodeI n a = true) (h' : nodeI n b = true) (e : (b - a) % n = 2) : linkI n a b = (n + a, true) := by simp [linkI, h, h', e]
theorem linkI_3 (n a b : Int) (h : nodeI n a = true) (h' : nodeI n b = true) (n1 : (b - a) % n ≠ 1) (n2 : (b - a) % n ≠ 2) (e : (a - b) % n = 1) : linkI n a b = (b, true) := by simp [linkI, h, h', n1, n2, e]
theorem linkI_4 (n a b : Int) (h : nodeI n a = true) (h' : nodeI n b = true) (n1 : (b - a) % n ≠ 1) (n2 : (b - a) % n ≠ 2) (e : (a - b) % n = 2) : linkI n a b = (n + b, true) := by simp [linkI, h, h', n1, n2, e]
theorem linkI_5 (n a b : Int) (h : nodeI n a = true) (h' : nodeI n b = true) (n1 : (b - a) % n ≠ 1) (n2 : (b - a) % n ≠ 2) (n3 : (a - b) % n ≠ 1) (n4 : (a - b) % n ≠ 2) : linkI n a b = (0, false) := by simp [linkI, h, h', n1, n2, n3, n4]

/-- So many nodes as they are reached from one. -/
def walkTo (n f d : Int) (k : Nat) : List Int := (List.range k).map fun (j : Nat) => (f + ((j : Int) + 1) * d) % n
theorem walkTo_succ (n f d : Int) (k : Nat) : walkTo n f d (k + 1) = walkTo n f d k ++ [(f + ((k : Int) + 1) * d) % n] := by simp [walkTo, List.range_succ]
theorem walkTo_len (n f d : Int) (k : Nat) : (walkTo n f d k).length = k := by simp [walkTo]
theorem walkTo_in (n f d : Int) (k : Nat) (hn : 0 < n) : ∀ z ∈ walkTo n f d k, 0 ≤ z ∧ z < n := by
  intro z hz
  unfold walkTo at hz
  rw [List.mem_map] at hz
  obtain ⟨j, _, rfl⟩ := hz
  exact ⟨Int.emod_nonneg _ (by omega), Int.emod_lt_of_pos _ hn⟩

/-- The owner from which a way goes. -/
def lastI (os : List Int) (d : Int) : Int := if d < 0 then os.headD 0 else os.getLastD 0

/-- The others, as they are reached. -/
def wayI (n : Int) (os : List Int) (d : Int) : List Int := if os = [] then [] else (walkTo n (lastI os d) d (n.toNat - 1)).filter fun x => !inB os x

/-- The same, as the document's own text has it. -/
def wayR (n : Int) (os : List Int) (d : Int) : List Int := if os = [] then [] else walkTo n (lastI os d) d (n.toNat - os.length)

theorem way1_fin : ∀ n : Fin 7, ∀ a : Fin 12, ∀ up : Bool, wayI (6 + (n.val : Int)) [(a.val : Int)] (if up then 1 else -1) = wayR (6 + (n.val : Int)) [(a.val : Int)] (if up then 1 else -1) ∨ ¬ (a.val < 6 + n.val) := by decide +kernel
theorem way2_fin : ∀ n : Fin 7, ∀ a : Fin 12, ∀ up : Bool, wayI (6 + (n.val : Int)) [(a.val : Int), ((a.val : Int) + 1) % (6 + (n.val : Int))] (if up then 1 else -1) = wayR (6 + (n.val : Int)) [(a.val : Int), ((a.val : Int) + 1) % (6 + (n.val : Int))] (if up then 1 else -1) ∨ ¬ (a.val < 6 + n.val) := by decide +kernel

/-- Owners as they may be: one, or one and the next. -/
def OwnersOk (n : Int) (os : List Int) : Prop := ∃ a, 0 ≤ a ∧ a < n ∧ (os = [a] ∨ os = [a, (a + 1) % n])

theorem wayI_wayR (n : Int) (os : List Int) (d : Int) (h1 : 6 ≤ n) (h2 : n ≤ 12) (ho : OwnersOk n os) (hd : d = 1 ∨ d = -1) : wayI n os d = wayR n os d := by
  obtain ⟨a, a0, a1, ho⟩ := ho
  have e1 : 6 + (((n - 6).toNat : Nat) : Int) = n := by omega
  have e2 : ((a.toNat : Nat) : Int) = a := by omega
  have hd' : ∃ up : Bool, d = if up then 1 else -1 := by rcases hd with rfl | rfl; exact ⟨true, rfl⟩; exact ⟨false, rfl⟩
  obtain ⟨up, rfl⟩ := hd'
  rcases ho with rfl | rfl
  · have hf := way1_fin ⟨(n - 6).toNat, by omega⟩ ⟨a.toNat, by omega⟩ up
    simp only [e1, e2] at hf
    rcases hf with hf | hf
    · exact hf
    · exfalso; apply hf; omega
  · have hf := way2_fin ⟨(n - 6).toNat, by omega⟩ ⟨a.toNat, by omega⟩ up
    simp only [e1, e2] at hf
    rcases hf with hf | hf
    · exact hf
    · exfalso; apply hf; omega

end Plait
