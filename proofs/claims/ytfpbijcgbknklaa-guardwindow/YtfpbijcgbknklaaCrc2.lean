/-
  Plain mathematics of sums, on: texts that are wrapped, opened, and opened with symbols turned.
-/
import Derived.Test.YtfpbijcgbknklaaCrc1
import Derived.Test.YtfpbijcgbknklaaMath4
namespace Plait
set_option linter.unusedVariables false

def vals (l : List UInt8) : List Bool := l.map (· == 49)

theorem vals_append (l m : List UInt8) : vals (l ++ m) = vals l ++ vals m := by simp [vals]
theorem vals_length (l : List UInt8) : (vals l).length = l.length := by simp [vals]

/-- The sum of a text of bits, as sixteen bits, as a number. -/
def sumB (l : List UInt8) : BitVec 16 := feed 0xffff#16 (vals l)
def sumI (l : List UInt8) : Int := (sumB l).toNat

theorem sumI_range (l : List UInt8) : 0 ≤ sumI l ∧ sumI l < 65536 := by
  have := (sumB l).isLt
  unfold sumI
  omega

def wrapL (b : List UInt8) : List UInt8 := b ++ bitsL (sumI b) 16 ++ [35]

/-- What Open answers: a text and an error's number. -/
def openP (l : List UInt8) : List UInt8 × Int :=
  if wholeB l = false then ([], 4)
  else if l.length < 17 then ([], 3)
  else if (l.drop (l.length - 17)).take 16 = bitsL (sumI (l.take (l.length - 17))) 16 then (l.take (l.length - 17), 0)
  else ([], 5)

def allBits (l : List UInt8) : Prop := ∀ c ∈ l, bitB c = true

theorem vals_inj : ∀ (l m : List UInt8), allBits l → allBits m → vals l = vals m → l = m
  | [], [], _, _, _ => rfl
  | [], _ :: _, _, _, h => by simp [vals] at h
  | _ :: _, [], _, _, h => by simp [vals] at h
  | a :: l, b :: m, hl, hm, h => by
    simp only [vals, List.map_cons, List.cons.injEq] at h
    have ih := vals_inj l m (fun c hc => hl c (by simp [hc])) (fun c hc => hm c (by simp [hc])) h.2
    have ha := hl a (by simp)
    have hb := hm b (by simp)
    simp [bitB] at ha hb
    rw [ih]
    congr 1
    rcases ha with rfl | rfl <;> rcases hb with rfl | rfl <;> simp at h <;> rfl

theorem vals_bits (r : BitVec 16) : vals (bitsL (r.toNat : Int) 16) = topBits 16 r := by
  apply List.ext_getElem?
  intro i
  by_cases hi : i < 16
  · rw [topBits_get 16 r i hi]
    have hl : i < (bitsL (r.toNat : Int) 16).length := by rw [bitsL_length]; exact hi
    simp only [vals, List.getElem?_map, List.getElem?_eq_getElem hl, bitsL_get, Option.map_some, Option.some.injEq]
    rw [BitVec.getMsbD_eq_getLsbD, BitVec.getLsbD, Nat.testBit_eq_decide_div_mod_eq]
    unfold bitAt
    have e : ((r.toNat : Int) / 2 ^ (16 - 1 - i) % 2) = ((r.toNat / 2 ^ (16 - 1 - i) % 2 : Nat) : Int) := by
      rw [Int.natCast_emod, Int.natCast_ediv]; simp
    rw [e]
    by_cases h1 : r.toNat / 2 ^ (16 - 1 - i) % 2 = 1
    · simp [h1, hi]
    · have h0 : r.toNat / 2 ^ (16 - 1 - i) % 2 = 0 := by omega
      simp [h0]
  · rw [List.getElem?_eq_none (by rw [vals_length, bitsL_length]; omega), List.getElem?_eq_none (by rw [topBits_length]; omega)]

theorem sum_append (l m : List UInt8) : sumB (l ++ m) = feed (sumB l) (vals m) := by
  rw [sumB, vals_append, feed_append]; rfl

theorem slen_bits_tail (w r : List UInt8) (h : allBits w) : slen (w ++ 35 :: r) = w.length + 1 := by
  have h1 : (w ++ 35 :: r).take w.length = w := by simp
  apply slen_at_tail (w ++ 35 :: r) w.length (by simp)
  · rw [h1]; exact h
  · simp

theorem whole_bits (w : List UInt8) (h : allBits w) : wholeB (w ++ [35]) = true := by
  rw [wholeB, slen_bits_tail w [] h]; simp

theorem slen_all : ∀ (l : List UInt8) (k : Nat), k + 1 ≤ slen l → ∀ c ∈ l.take k, bitB c = true
  | [], k, h, _, hc => by simp [slen] at h
  | a :: l, 0, _, c, hc => by simp at hc
  | a :: l, k + 1, h, c, hc => by
    simp only [slen] at h
    by_cases h1 : a = 35
    · rw [if_pos h1] at h; omega
    · rw [if_neg h1] at h
      by_cases h2 : a = 48 ∨ a = 49
      · rw [if_pos h2] at h
        rw [List.take_succ_cons] at hc
        rcases List.mem_cons.1 hc with rfl | hc
        · simp [bitB]; exact h2
        · exact slen_all l k (by omega) c hc
      · rw [if_neg h2] at h; omega

/-- Ahead of a whole text's end there are bits. -/
theorem whole_take (l : List UInt8) (n : Nat) (h : wholeB l = true) (hn : n < l.length) : allBits (l.take n) := by
  simp [wholeB] at h
  exact slen_all l n (by omega)

/-- A text of bits and the tail is opened just if the sum of all of them is nought. -/
theorem open_bits (w : List UInt8) (h : allBits w) (h16 : 16 ≤ w.length) :
    openP (w ++ [35]) = if sumB w = 0#16 then (w.take (w.length - 16), 0) else ([], 5) := by
  have hl : (w ++ [35]).length = w.length + 1 := by simp
  have e1 : (w ++ [35]).length - 17 = w.length - 16 := by omega
  have e2 : (w ++ [35]).take (w.length - 16) = w.take (w.length - 16) := by rw [List.take_append_of_le_length (by omega)]
  have e3 : ((w ++ [35]).drop (w.length - 16)).take 16 = w.drop (w.length - 16) := by
    rw [List.drop_append_of_le_length (by omega), List.take_append_of_le_length (by rw [List.length_drop]; omega), List.take_of_length_le (by rw [List.length_drop]; omega)]
  unfold openP
  rw [whole_bits w h, if_neg (by simp), if_neg (by omega), e1, e2, e3]
  have hs : sumB w = feed (sumB (w.take (w.length - 16))) (vals (w.drop (w.length - 16))) := by
    rw [← sum_append, List.take_append_drop]
  have hd : (vals (w.drop (w.length - 16))).length = 16 := by rw [vals_length, List.length_drop]; omega
  have key : (w.drop (w.length - 16) = bitsL (sumI (w.take (w.length - 16))) 16) ↔ sumB w = 0#16 := by
    rw [hs, feed_clears _ _ hd, ← vals_bits]
    constructor
    · intro e; rw [e]; rfl
    · intro e
      exact vals_inj _ _ (fun c hc => h c (List.mem_of_mem_drop hc)) (bits_all _ _) e
  by_cases hz : sumB w = 0#16
  · rw [if_pos (key.2 hz), if_pos hz]
  · rw [if_neg (fun e => hz (key.1 e)), if_neg hz]

theorem wrap_bits (b : List UInt8) (h : allBits b) : allBits (b ++ bitsL (sumI b) 16) := by
  intro c hc
  rcases List.mem_append.1 hc with hc | hc
  · exact h c hc
  · exact bits_all _ _ c hc

theorem wrap_sum (b : List UInt8) : sumB (b ++ bitsL (sumI b) 16) = 0#16 := by
  rw [sum_append, sumI, vals_bits, feed_own]

theorem open_wrap (b : List UInt8) (h : allBits b) : openP (wrapL b) = (b, 0) := by
  have hl : (b ++ bitsL (sumI b) 16).length = b.length + 16 := by rw [List.length_append, bitsL_length]
  rw [wrapL, open_bits _ (wrap_bits b h) (by omega), if_pos (wrap_sum b), hl]
  simp

/-- A text of bits, one of them turned. -/
theorem turn_bit (w : List UInt8) (h : allBits w) (k : Nat) (hk : k < w.length) : turn w (k : Int) = w.set k (other w[k]) := by
  unfold turn
  rw [if_pos (by omega)]
  simp [hk]

theorem other_bit (c : UInt8) (h : bitB c = true) : bitB (other c) = true ∧ (other c == 49) = !(c == 49) := by
  simp [bitB] at h
  rcases h with rfl | rfl <;> decide

theorem turn_allBits (w : List UInt8) (h : allBits w) (k : Nat) (hk : k < w.length) : allBits (turn w (k : Int)) := by
  rw [turn_bit w h k hk]
  intro c hc
  rcases List.mem_or_eq_of_mem_set hc with hc | rfl
  · exact h c hc
  · exact (other_bit _ (h _ (List.getElem_mem hk))).1

theorem turn_length (w : List UInt8) (k : Int) : (turn w k).length = w.length := by
  unfold turn
  split <;> simp

theorem turn_vals (w : List UInt8) (h : allBits w) (k : Nat) (hk : k < w.length) : vals (turn w (k : Int)) = xorL (vals w) (oneBit w.length k) := by
  rw [turn_bit w h k hk]
  apply List.ext_getElem
  · rw [vals_length, List.length_set]; simp [xorL, vals_length, oneBit_length _ _ hk]
  · intro i h1 h2
    have hi : i < w.length := by rw [vals_length, List.length_set] at h1; exact h1
    simp only [vals, List.getElem_map, xorL, List.getElem_zipWith]
    by_cases hik : i = k
    · subst hik
      rw [List.getElem_set_self]
      have : (oneBit w.length i)[i]'(by rw [oneBit_length _ _ hk]; exact hk) = true := by simp [oneBit]
      rw [this, (other_bit _ (h _ (List.getElem_mem hi))).2]
      simp
    · rw [List.getElem_set_ne (by omega)]
      have : (oneBit w.length k)[i]'(by rw [oneBit_length _ _ hk]; exact hi) = false := by
        unfold oneBit
        by_cases hlt : i < k
        · rw [List.getElem_append_left (by simpa using hlt)]; simp
        · rw [List.getElem_append_right (by simp; omega), List.getElem_cons]
          simp
          omega
      rw [this]
      simp

theorem turn_sum (w : List UInt8) (h : allBits w) (k : Nat) (hk : k < w.length) : sumB (turn w (k : Int)) = sumB w ^^^ feed 0#16 (oneBit w.length k) := by
  unfold sumB
  rw [turn_vals w h k hk]
  have := feed_xor (vals w) (oneBit w.length k) 0xffff#16 0#16 (by rw [vals_length, oneBit_length _ _ hk])
  rwa [BitVec.xor_zero] at this

theorem turn_tail (w : List UInt8) (k : Nat) (hk : k < w.length) : turn (w ++ [35]) (k : Int) = turn w (k : Int) ++ [35] := by
  unfold turn
  rw [if_pos (by simp; omega), if_pos (by omega)]
  have : (w ++ [35]).getD (k : Int).toNat 0 = w.getD (k : Int).toNat 0 := by
    simp [List.getD, List.getElem?_append_left hk]
  rw [this]
  simp [List.set_append_left _ _ hk]

end Plait
