/-
  Plain mathematics of sums: sixteen bits that move and are laid over; what is laid over one another is summed apart; which turned bits are found.
-/
import Derived.Test.YtfpbijcgbknklaaMath2
namespace Plait
set_option linter.unusedVariables false

/-- One place up; what goes out at the top is laid over. -/
def L (r : BitVec 16) : BitVec 16 := (r <<< 1) ^^^ (if r.msb then 0x1021#16 else 0#16)

def stepB (r : BitVec 16) (b : Bool) : BitVec 16 := L r ^^^ (if b then 0x1021#16 else 0#16)

def feed (r : BitVec 16) (bs : List Bool) : BitVec 16 := bs.foldl stepB r

def xorL (u v : List Bool) : List Bool := List.zipWith xor u v

theorem ite_xor (a b : Bool) (p : BitVec 16) : (if xor a b then p else 0#16) = (if a then p else 0#16) ^^^ (if b then p else 0#16) := by
  cases a <;> cases b <;> simp

theorem xor_four (a b c d : BitVec 16) : (a ^^^ b) ^^^ (c ^^^ d) = (a ^^^ c) ^^^ (b ^^^ d) := by
  rw [BitVec.xor_assoc, BitVec.xor_assoc, ← BitVec.xor_assoc b c d, BitVec.xor_comm b c, BitVec.xor_assoc c b d]

theorem L_xor (r s : BitVec 16) : L (r ^^^ s) = L r ^^^ L s := by
  unfold L
  rw [BitVec.shiftLeft_xor_distrib, BitVec.msb_xor, ite_xor, xor_four]

theorem L_zero : L 0#16 = 0#16 := by decide

theorem step_xor (r s : BitVec 16) (b c : Bool) : stepB (r ^^^ s) (xor b c) = stepB r b ^^^ stepB s c := by
  unfold stepB
  rw [L_xor, ite_xor, xor_four]

theorem feed_xor : ∀ (u v : List Bool) (r s : BitVec 16), u.length = v.length → feed (r ^^^ s) (xorL u v) = feed r u ^^^ feed s v
  | [], [], r, s, _ => rfl
  | [], _ :: _, _, _, h => by simp at h
  | _ :: _, [], _, _, h => by simp at h
  | b :: u, c :: v, r, s, h => by
    have ih := feed_xor u v (stepB r b) (stepB s c) (by simpa using h)
    rw [← step_xor] at ih
    exact ih

theorem feed_append (r : BitVec 16) (u v : List Bool) : feed r (u ++ v) = feed (feed r u) v := by simp [feed]

/-- Nothing is moved away. -/
theorem L_eq_zero (r : BitVec 16) (h : L r = 0#16) : r = 0#16 := by
  unfold L at h
  by_cases hm : r.msb = true
  · rw [hm, if_pos rfl] at h
    have h0 := congrArg (fun x : BitVec 16 => x.getLsbD 0) h
    simp at h0
  · rw [Bool.not_eq_true] at hm
    rw [hm] at h
    simp at h
    apply BitVec.eq_of_getLsbD_eq
    intro i hi
    by_cases hi15 : i = 15
    · subst hi15
      rw [BitVec.msb_eq_getLsbD_last] at hm
      simpa using hm
    · have h1 := congrArg (fun x : BitVec 16 => x.getLsbD (i + 1)) h
      simp at h1
      have := h1 (by omega)
      simpa using this

def Lk : Nat → BitVec 16 → BitVec 16
  | 0, r => r
  | k + 1, r => Lk k (L r)

theorem Lk_eq_zero : ∀ (k : Nat) (r : BitVec 16), Lk k r = 0#16 → r = 0#16
  | 0, _, h => h
  | k + 1, r, h => L_eq_zero r (Lk_eq_zero k (L r) h)

theorem Lk_zero : ∀ k, Lk k 0#16 = 0#16
  | 0 => rfl
  | k + 1 => by rw [Lk, L_zero, Lk_zero k]

theorem Lk_xor : ∀ (k : Nat) (r s : BitVec 16), Lk k (r ^^^ s) = Lk k r ^^^ Lk k s
  | 0, r, s => rfl
  | k + 1, r, s => by rw [Lk, L_xor, Lk_xor k]; rfl

theorem Lk_add : ∀ (k m : Nat) (r : BitVec 16), Lk (k + m) r = Lk m (Lk k r)
  | 0, m, r => by rw [Nat.zero_add]; rfl
  | k + 1, m, r => by rw [show k + 1 + m = (k + m) + 1 by omega, Lk, Lk_add k m]; rfl

theorem feed_zeros : ∀ (k : Nat) (r : BitVec 16), feed r (List.replicate k false) = Lk k r
  | 0, r => rfl
  | k + 1, r => by
    rw [List.replicate_succ, feed, List.foldl_cons]
    have : stepB r false = L r := by simp [stepB]
    rw [this]
    exact feed_zeros k (L r)

/-- The highest k bits of a register, the highest first. -/
def topBits : Nat → BitVec 16 → List Bool
  | 0, _ => []
  | k + 1, r => r.msb :: topBits k (r <<< 1)

theorem topBits_length : ∀ k r, (topBits k r).length = k
  | 0, _ => rfl
  | k + 1, r => by rw [topBits, List.length_cons, topBits_length k]

theorem step_msb (r : BitVec 16) : stepB r r.msb = r <<< 1 := by
  unfold stepB L
  rw [BitVec.xor_assoc, BitVec.xor_self, BitVec.xor_zero]

theorem feed_top : ∀ (k : Nat) (r : BitVec 16), feed r (topBits k r) = r <<< k
  | 0, r => by simp [feed, topBits]
  | k + 1, r => by
    have ih := feed_top k (r <<< 1)
    rw [topBits, feed, List.foldl_cons, step_msb]
    rw [show k + 1 = 1 + k by omega, BitVec.shiftLeft_add]
    exact ih

theorem feed_own (r : BitVec 16) : feed r (topBits 16 r) = 0#16 := by
  rw [feed_top]
  apply BitVec.eq_of_getLsbD_eq
  intro i hi
  simp

theorem topBits_get : ∀ (k : Nat) (r : BitVec 16) (i : Nat), i < k → (topBits k r)[i]? = some (r.getMsbD i)
  | 0, _, i, h => by omega
  | k + 1, r, 0, _ => by simp [topBits, BitVec.msb]
  | k + 1, r, i + 1, h => by
    have := topBits_get k (r <<< 1) i (by omega)
    rw [topBits, List.getElem?_cons_succ, this]
    simp [BitVec.getMsbD_shiftLeft]

theorem topBits_all (e : List Bool) (h : e.length = 16) : ∃ s : BitVec 16, topBits 16 s = e := by
  refine ⟨(BitVec.ofBoolListBE e).cast h, ?_⟩
  apply List.ext_getElem?
  intro i
  by_cases hi : i < 16
  · rw [topBits_get 16 _ i hi, BitVec.getMsbD_cast, BitVec.getMsbD_ofBoolListBE, List.getElem?_eq_getElem (by omega)]
    simp [List.getD, List.getElem?_eq_getElem (show i < e.length by omega)]
  · rw [List.getElem?_eq_none (by rw [topBits_length]; omega), List.getElem?_eq_none (by omega)]

theorem topBits_zero : ∀ k, topBits k 0#16 = List.replicate k false
  | 0 => rfl
  | k + 1 => by
    rw [topBits, show (0#16 : BitVec 16) <<< 1 = 0#16 by decide, topBits_zero k]
    rfl

theorem xorL_false : ∀ (u : List Bool), xorL u (List.replicate u.length false) = u
  | [] => rfl
  | b :: u => by
    have := xorL_false u
    simp only [xorL] at this
    simp [xorL, List.replicate_succ, this]

theorem false_xorL (u : List Bool) : xorL (List.replicate u.length false) u = u := by
  have := xorL_false u
  unfold xorL at *
  rw [List.zipWith_comm]
  simpa [Bool.xor_comm] using this

/-- Of sixteen bits that are fed to nothing nothing is left only where all are noughts. -/
theorem feed_sixteen (e : List Bool) (h : e.length = 16) (hz : feed 0#16 e = 0#16) : e = List.replicate 16 false := by
  obtain ⟨s, rfl⟩ := topBits_all e h
  have h1 := feed_xor (List.replicate 16 false) (topBits 16 s) s 0#16 (by rw [topBits_length]; rfl)
  have e1 : xorL (List.replicate 16 false) (topBits 16 s) = topBits 16 s := by
    have := false_xorL (topBits 16 s)
    rwa [topBits_length] at this
  rw [BitVec.xor_zero, e1, feed_own, hz, BitVec.xor_zero, feed_zeros] at h1
  have := Lk_eq_zero 16 s h1.symm
  rw [this, topBits_zero]

/-- Sixteen bits clear a register just if they are its own. -/
theorem feed_clears (r : BitVec 16) (u : List Bool) (h : u.length = 16) : feed r u = 0#16 ↔ u = topBits 16 r := by
  constructor
  · intro hz
    have h1 := feed_xor u (topBits 16 r) r r (by rw [h, topBits_length])
    rw [BitVec.xor_self, hz, feed_own, BitVec.xor_zero] at h1
    have h2 := feed_sixteen _ (by simp [xorL, h, topBits_length]) h1
    apply List.ext_getElem (by rw [h, topBits_length])
    intro i hi hi'
    have h3 : (xorL u (topBits 16 r))[i]'(by simp only [xorL, List.length_zipWith]; omega) = false := by
      simp only [h2, List.getElem_replicate]
    simp [xorL] at h3
    exact h3
  · rintro rfl
    exact feed_own r

/-- One bit among noughts. -/
def oneBit (n k : Nat) : List Bool := List.replicate k false ++ true :: List.replicate (n - 1 - k) false

theorem oneBit_length (n k : Nat) (h : k < n) : (oneBit n k).length = n := by simp [oneBit]; omega

theorem feed_oneBit (n k : Nat) : feed 0#16 (oneBit n k) = Lk (n - 1 - k) 0x1021#16 := by
  rw [oneBit, feed_append, feed_zeros, Lk_zero, feed, List.foldl_cons]
  have : stepB 0#16 true = 0x1021#16 := by decide
  rw [this]
  exact feed_zeros _ _

/-- Is the number of ones odd? -/
def par (r : BitVec 16) : Bool := ((((((((((((((r.getLsbD 0 ^^ r.getLsbD 1) ^^ r.getLsbD 2) ^^ r.getLsbD 3) ^^ r.getLsbD 4) ^^ r.getLsbD 5) ^^ r.getLsbD 6) ^^ r.getLsbD 7) ^^ r.getLsbD 8) ^^ r.getLsbD 9) ^^ r.getLsbD 10) ^^ r.getLsbD 11) ^^ r.getLsbD 12) ^^ r.getLsbD 13) ^^ r.getLsbD 14) ^^ r.getLsbD 15

theorem par_xor (r s : BitVec 16) : par (r ^^^ s) = (par r ^^ par s) := by
  have h : ∀ p q a b : Bool, ((p ^^ q) ^^ (a ^^ b)) = ((p ^^ a) ^^ (q ^^ b)) := by decide
  simp only [par, BitVec.getLsbD_xor]
  generalize r.getLsbD 0 = r0, r.getLsbD 1 = r1, r.getLsbD 2 = r2, r.getLsbD 3 = r3, r.getLsbD 4 = r4, r.getLsbD 5 = r5, r.getLsbD 6 = r6, r.getLsbD 7 = r7, r.getLsbD 8 = r8, r.getLsbD 9 = r9, r.getLsbD 10 = r10, r.getLsbD 11 = r11, r.getLsbD 12 = r12, r.getLsbD 13 = r13, r.getLsbD 14 = r14, r.getLsbD 15 = r15
  generalize s.getLsbD 0 = s0, s.getLsbD 1 = s1, s.getLsbD 2 = s2, s.getLsbD 3 = s3, s.getLsbD 4 = s4, s.getLsbD 5 = s5, s.getLsbD 6 = s6, s.getLsbD 7 = s7, s.getLsbD 8 = s8, s.getLsbD 9 = s9, s.getLsbD 10 = s10, s.getLsbD 11 = s11, s.getLsbD 12 = s12, s.getLsbD 13 = s13, s.getLsbD 14 = s14, s.getLsbD 15 = s15
  rw [h r0 s0 r1 s1, h _ _ r2 s2, h _ _ r3 s3, h _ _ r4 s4, h _ _ r5 s5, h _ _ r6 s6, h _ _ r7 s7, h _ _ r8 s8, h _ _ r9 s9, h _ _ r10 s10, h _ _ r11 s11, h _ _ r12 s12, h _ _ r13 s13, h _ _ r14 s14, h _ _ r15 s15]

theorem par_shift (r : BitVec 16) : par (r <<< 1) = (par r ^^ r.msb) := by
  rw [BitVec.msb_eq_getLsbD_last]
  simp [par]

theorem par_L (r : BitVec 16) : par (L r) = par r := by
  unfold L
  rw [par_xor, par_shift]
  cases r.msb <;> simp [par]

theorem par_Lk : ∀ (k : Nat) (r : BitVec 16), par (Lk k r) = par r
  | 0, _ => rfl
  | k + 1, r => by rw [Lk, par_Lk k, par_L]

/-- The first so many places are other ones. -/
def chk : Nat → BitVec 16 → Bool
  | 0, _ => true
  | k + 1, r => (L r != 0x1021#16) && chk k (L r)

theorem chk_ne : ∀ (k : Nat) (r : BitVec 16), chk k r = true → ∀ d, 0 < d → d ≤ k → Lk d r ≠ 0x1021#16
  | 0, _, _, d, h0, hd => by omega
  | k + 1, r, h, d, h0, hd => by
    simp only [chk, Bool.and_eq_true, bne_iff_ne] at h
    cases d with
    | zero => omega
    | succ d =>
      rw [Lk]
      by_cases h1 : d = 0
      · subst h1; exact h.1
      · exact chk_ne k (L r) h.2 d (by omega) (by omega)

theorem far_ne (d : Nat) (h0 : 0 < d) (hd : d ≤ 1000) : Lk d 0x1021#16 ≠ 0x1021#16 :=
  chk_ne 1000 _ (by decide +kernel) d h0 hd

theorem one_found (n k : Nat) : feed 0#16 (oneBit n k) ≠ 0#16 := by
  rw [feed_oneBit]
  intro h
  exact absurd (Lk_eq_zero _ _ h) (by decide)

theorem xor_eq_zero_iff' (a b : BitVec 16) (h : a ^^^ b = 0#16) : a = b := by
  have := congrArg (fun x => x ^^^ b) h
  simpa [BitVec.xor_assoc] using this

theorem two_found (n a b : Nat) (ha : a < n) (hb : b < n) (hab : a ≠ b) (hn : n ≤ 1000) : feed 0#16 (oneBit n a) ^^^ feed 0#16 (oneBit n b) ≠ 0#16 := by
  intro h
  have h := xor_eq_zero_iff' _ _ h
  rw [feed_oneBit, feed_oneBit] at h
  have key : ∀ i j : Nat, i < j → j < n → Lk (n - 1 - i) 0x1021#16 = Lk (n - 1 - j) 0x1021#16 → False := by
    intro i j hij hj he
    rw [show n - 1 - i = (j - i) + (n - 1 - j) by omega, Lk_add] at he
    have e2 := Lk_xor (n - 1 - j) (Lk (j - i) 0x1021#16) 0x1021#16
    rw [he, BitVec.xor_self] at e2
    exact far_ne (j - i) (by omega) (by omega) (xor_eq_zero_iff' _ _ (Lk_eq_zero _ _ e2))
  rcases Nat.lt_or_gt_of_ne hab with hlt | hgt
  · exact key a b hlt hb h
  · exact key b a hgt ha h.symm

theorem three_found (n a b c : Nat) : feed 0#16 (oneBit n a) ^^^ feed 0#16 (oneBit n b) ^^^ feed 0#16 (oneBit n c) ≠ 0#16 := by
  intro h
  have := congrArg par h
  rw [par_xor, par_xor, feed_oneBit, feed_oneBit, feed_oneBit, par_Lk, par_Lk, par_Lk] at this
  exact absurd this (by decide)

end Plait
