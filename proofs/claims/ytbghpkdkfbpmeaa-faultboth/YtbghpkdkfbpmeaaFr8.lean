/-
  Plain mathematics of frames, second part: a frame as a row of numbers, each with its size, written and read one behind the other.
-/
import Derived.Test.YtbghpkdkfbpmeaaFr1
namespace Plait

/-- How many bits the number at a place has; where they begin. -/
def szN (p : Nat) : Nat := if p = 0 then 2 else if p = 1 then 16 else if p = 2 then 6 else if (p - 3) % 2 = 0 then 2 else 8
def offN (p : Nat) : Nat := if p = 0 then 0 else if p = 1 then 2 else if p = 2 then 18 else 24 + 10 * ((p - 3) / 2) + 2 * ((p - 3) % 2)

theorem offN_succ (p : Nat) : offN (p + 1) = offN p + szN p := by
  unfold offN szN
  rcases Nat.eq_zero_or_pos p with h | h
  · subst h; rfl
  · rcases (by omega : p = 1 ∨ p = 2 ∨ 3 ≤ p) with h | h | h
    · subst h; rfl
    · subst h; rfl
    · rw [if_neg (by omega), if_neg (by omega), if_neg (by omega), if_neg (by omega), if_neg (by omega), if_neg (by omega), if_neg (by omega), if_neg (by omega), if_neg (by omega)]
      split <;> omega

theorem szN_range (p : Nat) : 1 ≤ szN p ∧ szN p ≤ 16 := by unfold szN; split <;> (try split) <;> (try split) <;> (try split) <;> omega

/-- The number at a place, and the first m of them. -/
def numAt (b : List UInt8) (p : Nat) : Int := (numV ((b.drop (offN p)).take (szN p)) : Int)
def numsOf (b : List UInt8) (m : Nat) : List Int := (List.range m).map (numAt b)

theorem numsOf_len (b : List UInt8) (m : Nat) : (numsOf b m).length = m := by simp [numsOf]
theorem numsOf_succ (b : List UInt8) (m : Nat) : numsOf b (m + 1) = numsOf b m ++ [numAt b m] := by simp [numsOf, List.range_succ]
theorem numsOf_get (b : List UInt8) (m i : Nat) (h : i < m) : (numsOf b m)[i]? = some (numAt b i) := by simp [numsOf, h]

theorem numAt_range (b : List UInt8) (p : Nat) : 0 ≤ numAt b p ∧ numAt b p < 65536 := by
  have h1 := numV_lt ((b.drop (offN p)).take (szN p))
  have h2 : ((b.drop (offN p)).take (szN p)).length ≤ 16 := by rw [List.length_take]; have := (szN_range p).2; omega
  have h3 : (2 : Nat) ^ ((b.drop (offN p)).take (szN p)).length ≤ 2 ^ 16 := Nat.pow_le_pow_right (by decide) h2
  unfold numAt
  omega
theorem numsOf_in (b : List UInt8) (m : Nat) : ∀ z ∈ numsOf b m, -9223372036854775808 ≤ z ∧ z ≤ 9223372036854775807 := by
  intro z hz
  unfold numsOf at hz
  rw [List.mem_map] at hz
  obtain ⟨p, _, rfl⟩ := hz
  have := numAt_range b p
  omega

/-- Items of numbers, two each; a frame of numbers. -/
def itemsN (zs : List Int) : List It := (List.range (zs.length / 2)).map fun i => ⟨zs.getD (2 * i) 0, zs.getD (2 * i + 1) 0⟩
def frN (zs : List Int) : Fr := ⟨zs.getD 0 0, zs.getD 1 0, zs.getD 2 0, ⟨zs.getD 3 0, zs.getD 4 0⟩, itemsN (zs.drop 5)⟩

theorem take_mem {b : List UInt8} (h : allBits b) (i k : Nat) : allBits ((b.drop i).take k) := fun c hc => h c (List.mem_of_mem_drop (List.mem_of_mem_take hc))

theorem numV_num0 (l : List UInt8) (h : allBits l) (h1 : 1 ≤ l.length) (h2 : l.length ≤ 62) : (numV l : Int) = num0 l := by
  have ho : numOk l = true := by
    simp [numOk, h1, h2]
    exact h
  rw [num0, if_pos ho]

theorem numAt_num0 (b : List UInt8) (h : allBits b) (p : Nat) (hp : offN p + 1 ≤ b.length) : numAt b p = num0 ((b.drop (offN p)).take (szN p)) := by
  have hs := szN_range p
  refine numV_num0 _ (take_mem h _ _) ?_ ?_
  · rw [List.length_take, List.length_drop]; omega
  · rw [List.length_take]; omega

theorem nums_getD (b : List UInt8) (m i : Nat) (h : i < m) : (numsOf b m).getD i 0 = numAt b i := by
  rw [List.getD_eq_getElem?_getD, numsOf_get b m i h]
  rfl
theorem nums_dropD (b : List UInt8) (m i : Nat) (h : 5 + i < m) : ((numsOf b m).drop 5).getD i 0 = numAt b (5 + i) := by
  rw [List.getD_eq_getElem?_getD, List.getElem?_drop, numsOf_get b m (5 + i) h]
  rfl

theorem off_even (i : Nat) : offN (5 + 2 * i) = 34 + 10 * i ∧ szN (5 + 2 * i) = 2 ∧ offN (5 + (2 * i + 1)) = 36 + 10 * i ∧ szN (5 + (2 * i + 1)) = 8 := by
  unfold offN szN
  refine ⟨?_, ?_, ?_, ?_⟩
  · rw [if_neg (by omega), if_neg (by omega), if_neg (by omega)]; omega
  · rw [if_neg (by omega), if_neg (by omega), if_neg (by omega), if_pos (by omega)]
  · rw [if_neg (by omega), if_neg (by omega), if_neg (by omega)]; omega
  · rw [if_neg (by omega), if_neg (by omega), if_neg (by omega), if_neg (by omega)]

/-- How many numbers there are. -/
theorem cnt_of (n m : Nat) (h0 : 34 ≤ n) (h1 : offN m ≤ n) (h2 : n < offN (m + 1)) : 5 ≤ m ∧ (m - 5) / 2 = (n - 34) / 10 := by
  have h5 : 5 ≤ m := by
    rcases Nat.lt_or_ge m 5 with h | h
    · exfalso
      rcases (by omega : m = 0 ∨ m = 1 ∨ m = 2 ∨ m = 3 ∨ m = 4) with rfl | rfl | rfl | rfl | rfl <;> simp [offN] at h2 <;> omega
    · exact h
  refine ⟨h5, ?_⟩
  unfold offN at h1 h2
  rw [if_neg (by omega), if_neg (by omega), if_neg (by omega)] at h1 h2
  omega

theorem itOf_at (b : List UInt8) (h : allBits b) (i : Nat) (hi : 34 + 10 * i + 10 ≤ b.length) : (⟨numAt b (5 + 2 * i), numAt b (5 + (2 * i + 1))⟩ : It) = itOf (((b.drop 34).drop (10 * i)).take 10) := by
  obtain ⟨o1, s1, o2, s2⟩ := off_even i
  have e1 := numAt_num0 b h (5 + 2 * i) (by omega)
  have e2 := numAt_num0 b h (5 + (2 * i + 1)) (by omega)
  rw [e1, e2, o1, s1, o2, s2]
  unfold itOf
  rw [List.drop_drop, List.take_take, List.drop_take, List.drop_drop, List.take_take, show 34 + 10 * i + 2 = 36 + 10 * i by omega]
  rfl

theorem frN_nums (b : List UInt8) (h : allBits b) (m : Nat) (h0 : 34 ≤ b.length) (h1 : offN m ≤ b.length) (h2 : b.length < offN (m + 1)) : frN (numsOf b m) = (frOf b).with (itsOf (b.drop 34) ((b.length - 34) / 10)) := by
  obtain ⟨h5, hq⟩ := cnt_of b.length m h0 h1 h2
  have g : ∀ i, i < 5 → (numsOf b m).getD i 0 = num0 ((b.drop (offN i)).take (szN i)) := fun i hi => by
    rw [nums_getD b m i (by omega)]
    refine numAt_num0 b h i ?_
    rcases (by omega : i = 0 ∨ i = 1 ∨ i = 2 ∨ i = 3 ∨ i = 4) with rfl | rfl | rfl | rfl | rfl <;> simp [offN] <;> omega
  have hE : itemsN ((numsOf b m).drop 5) = itsOf (b.drop 34) ((b.length - 34) / 10) := by
    unfold itemsN itsOf
    rw [List.length_drop, numsOf_len, hq]
    apply List.map_congr_left
    intro i hi
    rw [List.mem_range] at hi
    have hm : 5 + (2 * i + 1) < m := by omega
    rw [nums_dropD b m (2 * i) (by omega), nums_dropD b m (2 * i + 1) hm]
    exact itOf_at b h i (by omega)
  unfold frN Fr.with frOf
  rw [hE, g 0 (by omega), g 1 (by omega), g 2 (by omega), g 3 (by omega), g 4 (by omega)]
  simp only [Fr.mk.injEq, and_true]
  refine ⟨rfl, rfl, rfl, ?_⟩
  unfold itOf
  rw [List.take_take, List.drop_take, List.drop_drop, List.take_take]
  rfl

/-- A frame's numbers. -/
def numsF (f : Fr) : List Int := [f.K, f.R, f.S, f.P.K, f.P.V] ++ f.E.flatMap fun t => [t.K, t.V]

theorem pairs_len : ∀ E : List It, (E.flatMap fun t => [t.K, t.V]).length = 2 * E.length
  | [] => rfl
  | t :: r => by rw [List.flatMap_cons, List.length_append, pairs_len r]; simp; omega
theorem numsF_len (f : Fr) : (numsF f).length = 5 + 2 * f.E.length := by rw [numsF, List.length_append, pairs_len]; rfl

theorem pairs_get : ∀ (E : List It) (i : Nat) (h : i < E.length), (E.flatMap fun t => [t.K, t.V])[2 * i]? = some E[i].K ∧ (E.flatMap fun t => [t.K, t.V])[2 * i + 1]? = some E[i].V
  | [], i, h => absurd h (by simp)
  | t :: r, 0, h => ⟨rfl, rfl⟩
  | t :: r, i + 1, h => by
    have ih := pairs_get r i (by simpa using h)
    rw [List.flatMap_cons]
    exact ih

theorem pairs_take (E : List It) (k : Nat) (h : k < E.length) : ((E.take (k + 1)).flatMap fun t => [t.K, t.V]) = ((E.take k).flatMap fun t => [t.K, t.V]) ++ [E[k].K, E[k].V] := by
  rw [List.take_succ_eq_append_getElem h, List.flatMap_append]
  simp

theorem numsF_get (f : Fr) (i : Nat) (h : i < f.E.length) : (numsF f).getD (5 + 2 * i) 0 = f.E[i].K ∧ (numsF f).getD (5 + (2 * i + 1)) 0 = f.E[i].V := by
  obtain ⟨h1, h2⟩ := pairs_get f.E i h
  unfold numsF
  constructor
  · rw [List.getD_eq_getElem?_getD, List.getElem?_append_right (by simp), show 5 + 2 * i - [f.K, f.R, f.S, f.P.K, f.P.V].length = 2 * i by simp, h1]
    rfl
  · rw [List.getD_eq_getElem?_getD, List.getElem?_append_right (by simp), show 5 + (2 * i + 1) - [f.K, f.R, f.S, f.P.K, f.P.V].length = 2 * i + 1 by simp, h2]
    rfl

/-- The first k numbers' bits. -/
def wrN (zs : List Int) (k : Nat) : List UInt8 := (List.range k).flatMap fun i => bitsL (zs.getD i 0) (szN i)

theorem wrN_succ (zs : List Int) (k : Nat) : wrN zs (k + 1) = wrN zs k ++ bitsL (zs.getD k 0) (szN k) := by simp [wrN, List.range_succ]
theorem wrN_len (zs : List Int) : ∀ k, (wrN zs k).length ≤ 16 * k
  | 0 => by simp [wrN]
  | k + 1 => by rw [wrN_succ, List.length_append, bitsL_length]; have := wrN_len zs k; have := (szN_range k).2; omega

theorem wrN_head (f : Fr) : wrN (numsF f) 5 = frHead f := by
  rw [wrN_succ, wrN_succ, wrN_succ, wrN_succ, wrN_succ]
  show [] ++ bitsL f.K 2 ++ bitsL f.R 16 ++ bitsL f.S 6 ++ bitsL f.P.K 2 ++ bitsL f.P.V 8 = _
  simp [frHead, itBits]

theorem wrN_items (f : Fr) : ∀ q, q ≤ f.E.length → wrN (numsF f) (5 + 2 * q) = frHead f ++ (f.E.take q).flatMap itBits
  | 0, _ => by rw [wrN_head]; simp
  | q + 1, h => by
    have ih := wrN_items f q (by omega)
    obtain ⟨_, s1, _, s2⟩ := off_even q
    obtain ⟨g1, g2⟩ := numsF_get f q (by omega)
    rw [show 5 + 2 * (q + 1) = 5 + 2 * q + 1 + 1 by omega, wrN_succ, wrN_succ, ih, show 5 + 2 * q + 1 = 5 + (2 * q + 1) by omega, s1, s2, g1, g2, List.take_succ_eq_append_getElem (by omega), List.flatMap_append]
    simp [itBits]

theorem wrN_all (f : Fr) : wrN (numsF f) (numsF f).length = frBits f := by
  rw [numsF_len, wrN_items f _ (Nat.le_refl _), List.take_of_length_le (Nat.le_refl _)]
  rfl

/-- One bit more of the number at a place. -/
theorem numV_step (b : List UInt8) (o k : Nat) (h : o + k < b.length) : numV ((b.drop o).take (k + 1)) = 2 * numV ((b.drop o).take k) + if b[o + k] = 49 then 1 else 0 := by
  have hk : k < (b.drop o).length := by rw [List.length_drop]; omega
  rw [List.take_succ_eq_append_getElem hk, numV_snoc, List.getElem_drop]

end Plait
