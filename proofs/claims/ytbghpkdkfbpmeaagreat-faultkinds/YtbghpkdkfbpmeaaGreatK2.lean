/-
  Plain mathematics of sums, on: texts that are wrapped, opened, and opened with symbols turned.
-/
import Derived.Test.YtbghpkdkfbpmeaaGreatK1
import Derived.Shelf.Strings.Builder1
import Derived.Shelf.LaysM
import Derived.Shelf.Strconv.Clone
import Derived.Shelf.Strings.Prefix
import Derived.Shelf.Bits.Mul64
import Derived.Test.YtbghpkdkfbpmeaaGreatProg
import Derived.WalkKit
import Derived.WalkSpells
import Derived.WalkLawsBesides
import Derived.Lib.Hide
import Derived.BigQuiet
import Derived.Deep.QuietTactic
import Derived.Laws.IdiomStrings
import Derived.Laws.MakeOwn
namespace Plait
set_option linter.unusedVariables false

def vals (l : List UInt8) : List Bool := l.map (· == 49)

theorem vals_append (l m : List UInt8) : vals (l ++ m) = vals l ++ vals m := by simp [vals]
theorem vals_length (l : List UInt8) : (vals l).length = l.length := by simp [vals]

/-- The sum of a text of bits, as sixteen bits, as a number. -/
def sumB (l : List UInt8) : BitVec 16 := feed 0xffff#16 (vals l)
def sumI (l : List UInt8) : Int := (sumB l).toNat

theorem sumI_range (l : List UInt8) : 0 ≤ sumI l ∧ sumI l < 65536 := by
  have := (sumB l).isLt
  unfold sumI
  omega

def wrapL (b : List UInt8) : List UInt8 := b ++ bitsL (sumI b) 16 ++ [35]

/-- What Open answers: a text and an error's number. -/
def openP (l : List UInt8) : List UInt8 × Int :=
  if wholeB l = false then ([], 4)
  else if l.length < 17 then ([], 3)
  else if (l.drop (l.length - 17)).take 16 = bitsL (sumI (l.take (l.length - 17))) 16 then (l.take (l.length - 17), 0)
  else ([], 5)

def allBits (l : List UInt8) : Prop := ∀ c ∈ l, bitB c = true

theorem vals_inj : ∀ (l m : List UInt8), allBits l → allBits m → vals l = vals m → l = m
  | [], [], _, _, _ => rfl
  | [], _ :: _, _, _, h => by simp [vals] at h
  | _ :: _, [], _, _, h => by simp [vals] at h
  | a :: l, b :: m, hl, hm, h => by
    simp only [vals, List.map_cons, List.cons.injEq] at h
    have ih := vals_inj l m (fun c hc => hl c (by simp [hc])) (fun c hc => hm c (by simp [hc])) h.2
    have ha := hl a (by simp)
    have hb := hm b (by simp)
    simp [bitB] at ha hb
    rw [ih]
    congr 1
    rcases ha with rfl | rfl <;> rcases hb with rfl | rfl <;> simp at h <;> rfl

theorem vals_bits (r : BitVec 16) : vals (bitsL (r.toNat : Int) 16) = topBits 16 r := by
  apply List.ext_getElem?
  intro i
  by_cases hi : i < 16
  · rw [topBits_get 16 r i hi]
    have hl : i < (bitsL (r.toNat : Int) 16).length := by rw [bitsL_length]; exact hi
    simp only [vals, List.getElem?_map, List.getElem?_eq_getElem hl, bitsL_get, Option.map_some, Option.some.injEq]
    rw [BitVec.getMsbD_eq_getLsbD, BitVec.getLsbD, Nat.testBit_eq_decide_div_mod_eq]
    unfold bitAt
    have e : ((r.toNat : Int) / 2 ^ (16 - 1 - i) % 2) = ((r.toNat / 2 ^ (16 - 1 - i) % 2 : Nat) : Int) := by
      rw [Int.natCast_emod, Int.natCast_ediv]; simp
    rw [e]
    by_cases h1 : r.toNat / 2 ^ (16 - 1 - i) % 2 = 1
    · simp [h1, hi]
    · have h0 : r.toNat / 2 ^ (16 - 1 - i) % 2 = 0 := by omega
      simp [h0]
  · rw [List.getElem?_eq_none (by rw [vals_length, bitsL_length]; omega), List.getElem?_eq_none (by rw [topBits_length]; omega)]

theorem sum_append (l m : List UInt8) : sumB (l ++ m) = feed (sumB l) (vals m) := by
  rw [sumB, vals_append, feed_append]; rfl

theorem slen_bits_tail (w r : List UInt8) (h : allBits w) : slen (w ++ 35 :: r) = w.length + 1 := by
  have h1 : (w ++ 35 :: r).take w.length = w := by simp
  apply slen_at_tail (w ++ 35 :: r) w.length (by simp)
  · rw [h1]; exact h
  · simp

theorem whole_bits (w : List UInt8) (h : allBits w) : wholeB (w ++ [35]) = true := by
  rw [wholeB, slen_bits_tail w [] h]; simp

theorem slen_all : ∀ (l : List UInt8) (k : Nat), k + 1 ≤ slen l → ∀ c ∈ l.take k, bitB c = true
  | [], k, h, _, hc => by simp [slen] at h
  | a :: l, 0, _, c, hc => by simp at hc
  | a :: l, k + 1, h, c, hc => by
    simp only [slen] at h
    by_cases h1 : a = 35
    · rw [if_pos h1] at h; omega
    · rw [if_neg h1] at h
      by_cases h2 : a = 48 ∨ a = 49
      · rw [if_pos h2] at h
        rw [List.take_succ_cons] at hc
        rcases List.mem_cons.1 hc with rfl | hc
        · simp [bitB]; exact h2
        · exact slen_all l k (by omega) c hc
      · rw [if_neg h2] at h; omega

/-- Ahead of a whole text's end there are bits. -/
theorem whole_take (l : List UInt8) (n : Nat) (h : wholeB l = true) (hn : n < l.length) : allBits (l.take n) := by
  simp [wholeB] at h
  exact slen_all l n (by omega)

/-- A text of bits and the tail is opened just if the sum of all of them is nought. -/
theorem open_bits (w : List UInt8) (h : allBits w) (h16 : 16 ≤ w.length) :
    openP (w ++ [35]) = if sumB w = 0#16 then (w.take (w.length - 16), 0) else ([], 5) := by
  have hl : (w ++ [35]).length = w.length + 1 := by simp
  have e1 : (w ++ [35]).length - 17 = w.length - 16 := by omega
  have e2 : (w ++ [35]).take (w.length - 16) = w.take (w.length - 16) := by rw [List.take_append_of_le_length (by omega)]
  have e3 : ((w ++ [35]).drop (w.length - 16)).take 16 = w.drop (w.length - 16) := by
    rw [List.drop_append_of_le_length (by omega), List.take_append_of_le_length (by rw [List.length_drop]; omega), List.take_of_length_le (by rw [List.length_drop]; omega)]
  unfold openP
  rw [whole_bits w h, if_neg (by simp), if_neg (by omega), e1, e2, e3]
  have hs : sumB w = feed (sumB (w.take (w.length - 16))) (vals (w.drop (w.length - 16))) := by
    rw [← sum_append, List.take_append_drop]
  have hd : (vals (w.drop (w.length - 16))).length = 16 := by rw [vals_length, List.length_drop]; omega
  have key : (w.drop (w.length - 16) = bitsL (sumI (w.take (w.length - 16))) 16) ↔ sumB w = 0#16 := by
    rw [hs, feed_clears _ _ hd, ← vals_bits]
    constructor
    · intro e; rw [e]; rfl
    · intro e
      exact vals_inj _ _ (fun c hc => h c (List.mem_of_mem_drop hc)) (bits_all _ _) e
  by_cases hz : sumB w = 0#16
  · rw [if_pos (key.2 hz), if_pos hz]
  · rw [if_neg (fun e => hz (key.1 e)), if_neg hz]

theorem wrap_bits (b : List UInt8) (h : allBits b) : allBits (b ++ bitsL (sumI b) 16) := by
  intro c hc
  rcases List.mem_append.1 hc with hc | hc
  · exact h c hc
  · exact bits_all _ _ c hc

theorem wrap_sum (b : List UInt8) : sumB (b ++ bitsL (sumI b) 16) = 0#16 := by
  rw [sum_append, sumI, vals_bits, feed_own]

theorem open_wrap (b : List UInt8) (h : allBits b) : openP (wrapL b) = (b, 0) := by
  have hl : (b ++ bitsL (sumI b) 16).length = b.length + 16 := by rw [List.length_append, bitsL_length]
  rw [wrapL, open_bits _ (wrap_bits b h) (by omega), if_pos (wrap_sum b), hl]
  simp

/-- A text of bits, one of them turned. -/
theorem turn_bit (w : List UInt8) (h : allBits w) (k : Nat) (hk : k < w.length) : turn w (k : Int) = w.set k (other w[k]) := by
  unfold turn
  rw [if_pos (by omega)]
  simp [hk]

theorem other_bit (c : UInt8) (h : bitB c = true) : bitB (other c) = true ∧ (other c == 49) = !(c == 49) := by
  simp [bitB] at h
  rcases h with rfl | rfl <;> decide

theorem turn_allBits (w : List UInt8) (h : allBits w) (k : Nat) (hk : k < w.length) : allBits (turn w (k : Int)) := by
  rw [turn_bit w h k hk]
  intro c hc
  rcases List.mem_or_eq_of_mem_set hc with hc | rfl
  · exact h c hc
  · exact (other_bit _ (h _ (List.getElem_mem hk))).1

theorem turn_length (w : List UInt8) (k : Int) : (turn w k).length = w.length := by
  unfold turn
  split <;> simp

theorem turn_vals (w : List UInt8) (h : allBits w) (k : Nat) (hk : k < w.length) : vals (turn w (k : Int)) = xorL (vals w) (oneBit w.length k) := by
  rw [turn_bit w h k hk]
  apply List.ext_getElem
  · rw [vals_length, List.length_set]; simp [xorL, vals_length, oneBit_length _ _ hk]
  · intro i h1 h2
    have hi : i < w.length := by rw [vals_length, List.length_set] at h1; exact h1
    simp only [vals, List.getElem_map, xorL, List.getElem_zipWith]
    by_cases hik : i = k
    · subst hik
      rw [List.getElem_set_self]
      have : (oneBit w.length i)[i]'(by rw [oneBit_length _ _ hk]; exact hk) = true := by simp [oneBit]
      rw [this, (other_bit _ (h _ (List.getElem_mem hi))).2]
      simp
    · rw [List.getElem_set_ne (by omega)]
      have : (oneBit w.length k)[i]'(by rw [oneBit_length _ _ hk]; exact hi) = false := by
        unfold oneBit
        by_cases hlt : i < k
        · rw [List.getElem_append_left (by simpa using hlt)]; simp
        · rw [List.getElem_append_right (by simp; omega), List.getElem_cons]
          simp
          omega
      rw [this]
      simp

theorem turn_sum (w : List UInt8) (h : allBits w) (k : Nat) (hk : k < w.length) : sumB (turn w (k : Int)) = sumB w ^^^ feed 0#16 (oneBit w.length k) := by
  unfold sumB
  rw [turn_vals w h k hk]
  have := feed_xor (vals w) (oneBit w.length k) 0xffff#16 0#16 (by rw [vals_length, oneBit_length _ _ hk])
  rwa [BitVec.xor_zero] at this

theorem turn_tail (w : List UInt8) (k : Nat) (hk : k < w.length) : turn (w ++ [35]) (k : Int) = turn w (k : Int) ++ [35] := by
  unfold turn
  rw [if_pos (by simp; omega), if_pos (by omega)]
  have : (w ++ [35]).getD (k : Int).toNat 0 = w.getD (k : Int).toNat 0 := by
    simp [List.getD, List.getElem?_append_left hk]
  rw [this]
  simp [List.set_append_left _ _ hk]

end Plait
/-
  Plain mathematics of sums, on: wrapped texts with symbols turned are refused.
-/
namespace Plait
set_option linter.unusedVariables false

/-- A wrapped text's bits. -/
def wrapB (b : List UInt8) : List UInt8 := b ++ bitsL (sumI b) 16

theorem wrapL_eq (b : List UInt8) : wrapL b = wrapB b ++ [35] := rfl
theorem wrapB_length (b : List UInt8) : (wrapB b).length = b.length + 16 := by rw [wrapB, List.length_append, bitsL_length]
theorem wrapL_length (b : List UInt8) : (wrapL b).length = b.length + 17 := by rw [wrapL_eq, List.length_append, wrapB_length]; rfl

theorem wrapB_bits (b : List UInt8) (h : allBits b) : allBits (wrapB b) := wrap_bits b h
theorem wrapB_sum (b : List UInt8) : sumB (wrapB b) = 0#16 := wrap_sum b

theorem open_refused (w : List UInt8) (h : allBits w) (h16 : 16 ≤ w.length) (hs : sumB w ≠ 0#16) : openP (w ++ [35]) = ([], 5) := by
  rw [open_bits w h h16, if_neg hs]

theorem one_refused (b : List UInt8) (h : allBits b) (k : Nat) (hk : k < b.length + 16) : openP (turn (wrapL b) (k : Int)) = ([], 5) := by
  have hk' : k < (wrapB b).length := by rw [wrapB_length]; exact hk
  rw [wrapL_eq, turn_tail _ k hk']
  apply open_refused _ (turn_allBits _ (wrapB_bits b h) k hk') (by rw [turn_length, wrapB_length]; omega)
  rw [turn_sum _ (wrapB_bits b h) k hk', wrapB_sum b, BitVec.zero_xor]
  exact one_found _ _

theorem two_refused (b : List UInt8) (h : allBits b) (hb : b.length ≤ 900) (i j : Nat) (hi : i < b.length + 16) (hj : j < b.length + 16) (hij : i ≠ j) : openP (turn (turn (wrapL b) (i : Int)) (j : Int)) = ([], 5) := by
  have hi' : i < (wrapB b).length := by rw [wrapB_length]; exact hi
  have hj' : j < (turn (wrapB b) (i : Int)).length := by rw [turn_length, wrapB_length]; exact hj
  have a1 := turn_allBits _ (wrapB_bits b h) i hi'
  rw [wrapL_eq, turn_tail _ i hi', turn_tail _ j hj']
  apply open_refused _ (turn_allBits _ a1 j hj') (by rw [turn_length, turn_length, wrapB_length]; omega)
  rw [turn_sum _ a1 j hj', turn_sum _ (wrapB_bits b h) i hi', wrapB_sum b, BitVec.zero_xor, turn_length]
  exact two_found _ i j hi' (by rw [wrapB_length]; exact hj) hij (by rw [wrapB_length]; omega)

theorem three_refused (b : List UInt8) (h : allBits b) (i j k : Nat) (hi : i < b.length + 16) (hj : j < b.length + 16) (hk : k < b.length + 16) : openP (turn (turn (turn (wrapL b) (i : Int)) (j : Int)) (k : Int)) = ([], 5) := by
  have hi' : i < (wrapB b).length := by rw [wrapB_length]; exact hi
  have hj' : j < (turn (wrapB b) (i : Int)).length := by rw [turn_length, wrapB_length]; exact hj
  have hk' : k < (turn (turn (wrapB b) (i : Int)) (j : Int)).length := by rw [turn_length, turn_length, wrapB_length]; exact hk
  have a1 := turn_allBits _ (wrapB_bits b h) i hi'
  have a2 := turn_allBits _ a1 j hj'
  rw [wrapL_eq, turn_tail _ i hi', turn_tail _ j hj', turn_tail _ k hk']
  apply open_refused _ (turn_allBits _ a2 k hk') (by rw [turn_length, turn_length, turn_length, wrapB_length]; omega)
  rw [turn_sum _ a2 k hk', turn_sum _ a1 j hj', turn_sum _ (wrapB_bits b h) i hi', wrapB_sum b, BitVec.zero_xor]
  simp only [turn_length]
  exact three_found _ i j k

theorem bits_not_whole (w : List UInt8) (h : allBits w) : wholeB w = false := by
  unfold wholeB
  rw [Bool.and_eq_false_iff]
  left
  rcases List.eq_nil_or_concat w with rfl | ⟨m, c, rfl⟩
  · rfl
  · have hc := h c (by simp)
    simp [bitB] at hc
    simp
    rcases hc with rfl | rfl <;> decide

theorem tail_gone (b : List UInt8) (h : allBits b) : openP (wrapB b) = ([], 4) := by
  unfold openP
  rw [if_pos (bits_not_whole _ (wrapB_bits b h))]

theorem more_behind (b : List UInt8) (h : allBits b) (c : UInt8) : openP (wrapL b ++ [c]) = ([], 4) := by
  have hl := wrapB_length b
  have : wholeB (wrapL b ++ [c]) = false := by
    unfold wholeB
    rw [Bool.and_eq_false_iff]
    right
    rw [wrapL_eq, List.append_assoc, List.singleton_append, slen_bits_tail _ [c] (wrapB_bits b h)]
    simp
  unfold openP
  rw [if_pos this]

end Plait
/-
  Plain mathematics of frames, with no program in it: what is allowed, how a frame is written and read.
-/
namespace Plait

structure It where
  K : Int
  V : Int
deriving DecidableEq, Inhabited

structure Fr where
  K : Int
  R : Int
  S : Int
  P : It
  E : List It
deriving DecidableEq, Inhabited

def itemB (i : It) (carries : Bool) : Bool := if i.K = 0 then i.V == 0 && !carries else if i.K = 1 then i.V == 0 else if i.K = 2 then decide (0 ≤ i.V) && decide (i.V ≤ 255) else false

/-- How many items such a frame's Echo has. -/
def echoI (c : Cf) (k s : Int) : Int := if k = 3 ∧ s < c.N then slotsI c else 0

/-- The first two tests of a frame, and the third. -/
def badA (c : Cf) (f : Fr) : Bool := decide (f.S < 0) || decide (slotsI c ≤ f.S) || decide (f.R < 0) || decide (65536 ≤ f.R)
def badK (c : Cf) (f : Fr) : Bool := decide (f.K < 1) || decide (3 < f.K) || (f.K != 3 && decide (c.N ≤ f.S))
def badP (f : Fr) : Bool := !itemB f.P (f.K == 3) || (f.K != 3 && f.P.K != 0)

def checkF (c : Cf) (f : Fr) : Int :=
  if badA c f then 1 else if badK c f then 6 else if badP f then 1 else if (f.E.length : Int) ≠ echoI c f.K f.S then 2 else if f.E.all (itemB · false) then 0 else 1

theorem checkF_a (c : Cf) (f : Fr) (h : badA c f = true) : checkF c f = 1 := by simp [checkF, h]
theorem checkF_k (c : Cf) (f : Fr) (h : badA c f = false) (h2 : badK c f = true) : checkF c f = 6 := by simp [checkF, h, h2]
theorem checkF_p (c : Cf) (f : Fr) (h : badA c f = false) (h2 : badK c f = false) (h3 : badP f = true) : checkF c f = 1 := by simp [checkF, h, h2, h3]
theorem checkF_l (c : Cf) (f : Fr) (h : badA c f = false) (h2 : badK c f = false) (h3 : badP f = false) (h4 : (f.E.length : Int) ≠ echoI c f.K f.S) : checkF c f = 2 := by simp [checkF, h, h2, h3, h4]
theorem checkF_e (c : Cf) (f : Fr) (h : badA c f = false) (h2 : badK c f = false) (h3 : badP f = false) (h4 : (f.E.length : Int) = echoI c f.K f.S) : checkF c f = if f.E.all (itemB · false) then 0 else 1 := by simp [checkF, h, h2, h3, h4]

/-- A frame that may be. -/
structure Fr.Ok (c : Cf) (f : Fr) : Prop where
  s0 : 0 ≤ f.S
  s1 : f.S < slotsI c
  r0 : 0 ≤ f.R
  r1 : f.R < 65536
  k1 : 1 ≤ f.K
  k3 : f.K ≤ 3
  kp : f.K = 3 ∨ f.S < c.N
  p : itemB f.P (f.K == 3) = true
  pz : f.K = 3 ∨ f.P.K = 0
  len : (f.E.length : Int) = echoI c f.K f.S
  all : ∀ i ∈ f.E, itemB i false = true

theorem Fr.Ok.check {c : Cf} {f : Fr} (h : f.Ok c) : checkF c f = 0 := by
  obtain ⟨s0, s1, r0, r1, k1, k3, kp, p, pz, len, all⟩ := h
  have a : badA c f = false := by simp [badA]; omega
  have k : badK c f = false := by simp [badK]; omega
  have q : badP f = false := by
    unfold badP
    rw [p]
    simp
    omega
  rw [checkF_e c f a k q len, if_pos (List.all_eq_true.2 all)]

theorem Fr.Ok.of {c : Cf} {f : Fr} (h : checkF c f = 0) : f.Ok c := by
  unfold checkF at h
  split at h
  · simp at h
  · rename_i a
    split at h
    · simp at h
    · rename_i k
      split at h
      · simp at h
      · rename_i p
        split at h
        · simp at h
        · rename_i l
          split at h
          · rename_i e
            have a' : badA c f = false := by simpa using a
            have k' : badK c f = false := by simpa using k
            have p' : badP f = false := by simpa using p
            simp [badA] at a'
            simp [badK] at k'
            unfold badP at p'
            rw [Bool.or_eq_false_iff] at p'
            refine ⟨by omega, by omega, by omega, by omega, by omega, by omega, ?_, by simpa using p'.1, ?_, by omega, List.all_eq_true.1 e⟩
            · by_cases h1 : f.S < c.N
              · exact .inr h1
              · exact .inl (by omega)
            · have := p'.2
              simp at this
              by_cases h3 : f.K = 3
              · exact .inl h3
              · exact .inr (this h3)
          · simp at h

def itBits (i : It) : List UInt8 := bitsL i.K 2 ++ bitsL i.V 8
def frHead (f : Fr) : List UInt8 := bitsL f.K 2 ++ bitsL f.R 16 ++ bitsL f.S 6 ++ itBits f.P
def frBits (f : Fr) : List UInt8 := frHead f ++ f.E.flatMap itBits
def textF (f : Fr) : List UInt8 := wrapL (frBits f)

theorem itBits_length (i : It) : (itBits i).length = 10 := by simp [itBits, bitsL_length]
theorem frHead_length (f : Fr) : (frHead f).length = 34 := by simp [frHead, bitsL_length, itBits_length]
theorem items_length : ∀ E : List It, (E.flatMap itBits).length = 10 * E.length
  | [] => rfl
  | i :: r => by rw [List.flatMap_cons, List.length_append, itBits_length, items_length r, List.length_cons]; omega
theorem frBits_length (f : Fr) : (frBits f).length = 34 + 10 * f.E.length := by rw [frBits, List.length_append, frHead_length, items_length]
theorem textF_length (f : Fr) : (textF f).length = 51 + 10 * f.E.length := by rw [textF, wrapL_length, frBits_length]; omega

theorem itBits_all (i : It) : allBits (itBits i) := by
  intro c hc
  rcases List.mem_append.1 hc with h | h
  · exact bits_all _ _ c h
  · exact bits_all _ _ c h
theorem frHead_all (f : Fr) : allBits (frHead f) := by
  intro c hc
  rcases List.mem_append.1 hc with h | h
  · rcases List.mem_append.1 h with h | h
    · rcases List.mem_append.1 h with h | h
      · exact bits_all _ _ c h
      · exact bits_all _ _ c h
    · exact bits_all _ _ c h
  · exact itBits_all _ c h
theorem frBits_all (f : Fr) : allBits (frBits f) := by
  intro c hc
  rcases List.mem_append.1 hc with h | h
  · exact frHead_all f c h
  · obtain ⟨i, _, h⟩ := List.mem_flatMap.1 h
    exact itBits_all i c h

/-- What a number's bits say. -/
def num0 (l : List UInt8) : Int := if numOk l then (numV l : Int) else 0

theorem num0_bits (x : Int) (k : Nat) (h1 : 1 ≤ k) (h2 : k ≤ 62) (h0 : 0 ≤ x) (hx : x < 2 ^ k) : num0 (bitsL x k) = x := by
  have ho : numOk (bitsL x k) = true := by
    simp [numOk, bitsL_length, h1, h2]
    exact bits_all x k
  rw [num0, if_pos ho, numV_bits]
  exact Int.emod_eq_of_lt h0 hx

theorem num0_range (l : List UInt8) (k : Nat) (h : l.length ≤ k) : 0 ≤ num0 l ∧ num0 l < 2 ^ k := by
  unfold num0
  split
  · have h1 := numV_lt l
    have h2 : (2 : Nat) ^ l.length ≤ 2 ^ k := Nat.pow_le_pow_right (by decide) h
    have h3 : numV l < 2 ^ k := Nat.lt_of_lt_of_le h1 h2
    exact ⟨by omega, by exact_mod_cast h3⟩
  · exact ⟨by omega, Int.pow_pos (by omega)⟩

def itOf (l : List UInt8) : It := ⟨num0 (l.take 2), num0 ((l.drop 2).take 8)⟩
def frOf (b : List UInt8) : Fr := ⟨num0 (b.take 2), num0 ((b.drop 2).take 16), num0 ((b.drop 18).take 6), itOf ((b.drop 24).take 10), []⟩
def itsOf (l : List UInt8) (n : Nat) : List It := (List.range n).map fun i => itOf ((l.drop (10 * i)).take 10)

def Fr.with (f : Fr) (E : List It) : Fr := { f with E := E }
def zeroF : Fr := ⟨0, 0, 0, ⟨0, 0⟩, []⟩

/-- What Read answers of the bits. -/
def readB (c : Cf) (b : List UInt8) : Fr × Int :=
  if b.length < 34 then (zeroF, 3)
  else if (b.length : Int) - 34 ≠ 10 * echoI c (frOf b).K (frOf b).S then (zeroF, 2)
  else if checkF c ((frOf b).with (itsOf (b.drop 34) ((b.length - 34) / 10))) ≠ 0 then (zeroF, checkF c ((frOf b).with (itsOf (b.drop 34) ((b.length - 34) / 10))))
  else ((frOf b).with (itsOf (b.drop 34) ((b.length - 34) / 10)), 0)

/-- What Read answers. -/
def readF (c : Cf) (l : List UInt8) : Fr × Int := if (openP l).2 ≠ 0 then (zeroF, (openP l).2) else readB c (openP l).1

theorem itOf_bits (i : It) (b : Bool) (h : itemB i b = true) : itOf (itBits i) = i := by
  have hK : (0 ≤ i.K ∧ i.K < 4) ∧ 0 ≤ i.V ∧ i.V < 256 := by
    unfold itemB at h
    split at h
    · simp at h; omega
    · split at h
      · simp at h; omega
      · split at h
        · simp at h; omega
        · simp at h
  obtain ⟨⟨k0, k1⟩, v0, v1⟩ := hK
  unfold itOf itBits
  rw [List.take_left' (bitsL_length _ _), List.drop_left' (bitsL_length _ _), List.take_of_length_le (by rw [bitsL_length]; omega), num0_bits i.K 2 (by omega) (by omega) k0 (by omega), num0_bits i.V 8 (by omega) (by omega) v0 (by omega)]

theorem itsOf_bits : ∀ (E : List It), (∀ i ∈ E, itemB i false = true) → itsOf (E.flatMap itBits) E.length = E
  | [], _ => rfl
  | i :: r, h => by
    have ih := itsOf_bits r (fun j hj => h j (List.mem_cons_of_mem _ hj))
    unfold itsOf at ih ⊢
    rw [List.length_cons, List.range_succ_eq_map, List.map_cons, List.map_map, List.flatMap_cons]
    refine List.cons_eq_cons.2 ⟨?_, ?_⟩
    · rw [Nat.mul_zero, List.drop_zero, List.take_left' (itBits_length i)]
      exact itOf_bits i false (h i (List.mem_cons_self ..))
    · refine Eq.trans ?_ ih
      apply List.map_congr_left
      intro k _
      show itOf ((List.drop (10 * (k + 1)) (itBits i ++ List.flatMap itBits r)).take 10) = _
      rw [show 10 * (k + 1) = 10 + 10 * k by omega, ← List.drop_drop, List.drop_left' (itBits_length i)]

theorem frOf_bits (c : Cf) (f : Fr) (hc : c.Ok) (h : f.Ok c) (E : List UInt8) : frOf (frHead f ++ E) = f.with [] := by
  obtain ⟨s0, s1, r0, r1, k1, k3, kp, p, pz, len, all⟩ := h
  have hs : slotsI c ≤ 15 := by have := hc.n12; have := hc.len; unfold slotsI; omega
  unfold frOf Fr.with frHead
  simp only [List.append_assoc]
  rw [List.take_left' (bitsL_length _ _), List.drop_left' (bitsL_length _ _), List.take_left' (bitsL_length _ _)]
  rw [show (18 : Nat) = 2 + 16 by rfl, ← List.drop_drop, List.drop_left' (bitsL_length _ _), List.drop_left' (bitsL_length _ _), List.take_left' (bitsL_length _ _)]
  rw [show (24 : Nat) = 2 + 16 + 6 by rfl, ← List.drop_drop, ← List.drop_drop, List.drop_left' (bitsL_length _ _), List.drop_left' (bitsL_length _ _), List.drop_left' (bitsL_length _ _), List.take_left' (itBits_length _)]
  rw [num0_bits f.K 2 (by omega) (by omega) (by omega) (by omega), num0_bits f.R 16 (by omega) (by omega) (by omega) (by omega), num0_bits f.S 6 (by omega) (by omega) (by omega) (by omega), itOf_bits f.P _ p]

/-- What was written is read as it was. -/
theorem readB_bits (c : Cf) (f : Fr) (hc : c.Ok) (h : f.Ok c) : readB c (frBits f) = (f, 0) := by
  have hl := frBits_length f
  have ho := frOf_bits c f hc h (f.E.flatMap itBits)
  have hi := itsOf_bits f.E h.all
  have e : (frOf (frBits f)).with (itsOf ((frBits f).drop 34) (((frBits f).length - 34) / 10)) = f := by
    rw [show ((frBits f).length - 34) / 10 = f.E.length by omega]
    unfold frBits
    rw [ho, List.drop_left' (frHead_length f), hi]
    rfl
  unfold readB
  rw [e, if_neg (by omega), if_neg, if_neg]
  · rw [h.check]; simp
  · have : (frOf (frBits f)).K = f.K ∧ (frOf (frBits f)).S = f.S := by
      unfold frBits
      rw [ho]
      exact ⟨rfl, rfl⟩
    rw [this.1, this.2, ← h.len]
    omega

theorem readF_text (c : Cf) (f : Fr) (hc : c.Ok) (h : f.Ok c) : readF c (textF f) = (f, 0) := by
  unfold readF textF
  rw [open_wrap _ (frBits_all f)]
  simp
  exact readB_bits c f hc h

theorem textF_inj (c : Cf) (f g : Fr) (hc : c.Ok) (hf : f.Ok c) (hg : g.Ok c) (h : textF f = textF g) : f = g := by
  have h1 := readF_text c f hc hf
  have h2 := readF_text c g hc hg
  rw [h, h2] at h1
  exact (Prod.ext_iff.1 h1).1.symm

/-- A front of a frame's text but itself. -/
theorem front_refused (f : Fr) (k : Nat) (h : k < (textF f).length) (c : Cf) : readF c ((textF f).take k) = (zeroF, 4) := by
  have hb : allBits ((textF f).take k) := by
    have hk : k ≤ (wrapB (frBits f)).length := by
      rw [textF, wrapL_length] at h
      rw [wrapB_length]
      omega
    unfold textF
    rw [wrapL_eq, List.take_append_of_le_length hk]
    exact fun c hc => wrapB_bits _ (frBits_all f) c (List.mem_of_mem_take hc)
  have ho : openP ((textF f).take k) = ([], 4) := by
    unfold openP
    rw [if_pos (bits_not_whole _ hb)]
  unfold readF
  rw [ho]
  rfl

theorem behind_refused (f : Fr) (s : UInt8) (c : Cf) : readF c (textF f ++ [s]) = (zeroF, 4) := by
  unfold readF textF
  rw [more_behind _ (frBits_all f)]
  rfl

theorem turn1_refused (f : Fr) (k : Nat) (h : k + 1 < (textF f).length) (c : Cf) : readF c (turn (textF f) (k : Int)) = (zeroF, 5) := by
  have hk : k < (frBits f).length + 16 := by rw [textF, wrapL_length] at h; omega
  unfold readF textF
  rw [one_refused _ (frBits_all f) k hk]
  rfl

theorem turn2_refused (f : Fr) (i j : Nat) (hE : f.E.length ≤ 15) (hi : i + 1 < (textF f).length) (hj : j + 1 < (textF f).length) (hij : i ≠ j) (c : Cf) : readF c (turn (turn (textF f) (i : Int)) (j : Int)) = (zeroF, 5) := by
  have hl := frBits_length f
  rw [textF, wrapL_length] at hi hj
  unfold readF textF
  rw [two_refused _ (frBits_all f) (by omega) i j (by omega) (by omega) hij]
  rfl

/-- The text of the same bits behind another network is refused as too long, where it says again what was taken. -/
theorem other_refused (c d : Cf) (f : Fr) (hc : c.Ok) (h : f.Ok c) (hK : f.K = 3) (hS : f.S < c.N) (hN : d.N = c.N) (hne : slotsI d ≠ slotsI c) : readF d (textF f) = (zeroF, 2) ∧ (checkF d f = 2 ∨ slotsI d ≤ f.S) := by
  have hl := frBits_length f
  have ho := frOf_bits c f hc h (f.E.flatMap itBits)
  have hlen := h.len
  have he : echoI c f.K f.S = slotsI c := by unfold echoI; rw [if_pos ⟨hK, hS⟩]
  have he2 : echoI d f.K f.S = slotsI d := by unfold echoI; rw [if_pos ⟨hK, by omega⟩]
  rw [he] at hlen
  refine ⟨?_, ?_⟩
  · unfold readF textF
    rw [open_wrap _ (frBits_all f)]
    rw [if_neg (by simp)]
    show readB d (frBits f) = _
    have : (frOf (frBits f)).K = f.K ∧ (frOf (frBits f)).S = f.S := by
      unfold frBits
      rw [ho]
      exact ⟨rfl, rfl⟩
    unfold readB
    rw [if_neg (by omega), if_pos]
    rw [this.1, this.2, he2]
    omega
  · by_cases hs : slotsI d ≤ f.S
    · exact .inr hs
    · left
      obtain ⟨s0, s1, r0, r1, k1, k3, kp, p, pz, len, all⟩ := h
      refine checkF_l d f ?_ ?_ ?_ ?_
      · simp [badA]; omega
      · simp [badK]; omega
      · unfold badP
        rw [p]
        simp
        omega
      · rw [he2]; omega

/-- One item that may be. -/
def itemOf (n : Int) (carries : Bool) : It := if (if carries && n % 3 == 0 then 2 else n % 3) = 2 then ⟨2, n.tdiv 3 % 256⟩ else ⟨n % 3, 0⟩

theorem itemOf_ok (n : Int) (b : Bool) : itemB (itemOf n b) b = true := by
  have h0 : 0 ≤ n % 3 := by omega
  have h3 : n % 3 < 3 := by omega
  have v0 : 0 ≤ n.tdiv 3 % 256 := Int.emod_nonneg _ (by omega)
  have v1 : n.tdiv 3 % 256 < 256 := Int.emod_lt_of_pos _ (by omega)
  unfold itemOf
  generalize n.tdiv 3 % 256 = v at *
  rcases (by omega : n % 3 = 0 ∨ n % 3 = 1 ∨ n % 3 = 2) with h | h | h <;> cases b <;> simp [h, itemB] <;> omega

/-- Which number makes the i-th item of Echo. -/
def echoN (ns : List Int) (i : Nat) : Int := if 0 < ns.length then (ns.getD (i % ns.length) 0).tdiv (1 + (i : Int)) + i else i

def makeK (c : Cf) (f : Fr) : Int := if c.N ≤ f.S % slotsI c then 3 else 1 + f.K % 3
def makeE (ns : List Int) (k : Nat) : List It := (List.range k).map fun i => itemOf (echoN ns i) false

/-- The frame that the laws make of any one. -/
def makeF (c : Cf) (f : Fr) (ns : List Int) : Fr :=
  if makeK c f = 3 then ⟨3, f.R % 65536, f.S % slotsI c, itemOf f.P.V true, makeE ns (if f.S % slotsI c < c.N then (slotsI c).toNat else 0)⟩
  else ⟨makeK c f, f.R % 65536, f.S % slotsI c, ⟨0, 0⟩, []⟩

theorem makeE_len (ns : List Int) (k : Nat) : (makeE ns k).length = k := by simp [makeE]
theorem makeE_succ (ns : List Int) (k : Nat) : makeE ns (k + 1) = makeE ns k ++ [itemOf (echoN ns k) false] := by simp [makeE, List.range_succ]
theorem makeE_all (ns : List Int) (k : Nat) : ∀ i ∈ makeE ns k, itemB i false = true := by
  intro i hi
  unfold makeE at hi
  rw [List.mem_map] at hi
  obtain ⟨j, _, rfl⟩ := hi
  exact itemOf_ok _ _

theorem makeF_ok (c : Cf) (f : Fr) (ns : List Int) (hc : c.Ok) : (makeF c f ns).Ok c := by
  have h6 := hc.n6
  have hs : 0 < slotsI c := by unfold slotsI; omega
  have s0 : 0 ≤ f.S % slotsI c := Int.emod_nonneg _ (by omega)
  have s1 : f.S % slotsI c < slotsI c := Int.emod_lt_of_pos _ hs
  have r0 : 0 ≤ f.R % 65536 := by omega
  have r1 : f.R % 65536 < 65536 := by omega
  unfold makeF
  by_cases hk : makeK c f = 3
  · rw [if_pos hk]
    refine ⟨s0, s1, r0, r1, by simp, by simp, .inl rfl, itemOf_ok _ _, .inl rfl, ?_, makeE_all _ _⟩
    show ((makeE ns _).length : Int) = echoI c 3 (f.S % slotsI c)
    rw [makeE_len]
    unfold echoI
    by_cases h : f.S % slotsI c < c.N
    · rw [if_pos h, if_pos ⟨rfl, h⟩]; omega
    · rw [if_neg h, if_neg (by simp [h])]; rfl
  · rw [if_neg hk]
    have hk' := hk
    unfold makeK at hk
    have hn : ¬ c.N ≤ f.S % slotsI c := fun e => hk (by rw [if_pos e])
    have e : makeK c f = 1 + f.K % 3 := by unfold makeK; rw [if_neg hn]
    rw [e] at hk' ⊢
    refine ⟨s0, s1, r0, r1, by show 1 ≤ 1 + f.K % 3; omega, by show 1 + f.K % 3 ≤ 3; omega, .inr (by show f.S % slotsI c < c.N; omega), ?_, .inr rfl, ?_, by simp⟩
    · show itemB ⟨0, 0⟩ ((1 + f.K % 3) == 3) = true
      rw [show ((1 + f.K % 3) == 3) = false by simp; omega]
      rfl
    · show ((0 : Nat) : Int) = echoI c (1 + f.K % 3) _
      unfold echoI
      rw [if_neg (by omega)]
      rfl

end Plait
/-
  Contracts of plaitingref3: what the document's own chapter 3 answers of networks.
-/
namespace Go.Proofs.YtbghpkdkfbpmeaaGreat
open Go.RowKit Plait
set_option maxRecDepth 100000
set_option linter.unusedVariables false

theorem rslots_any (c : Cf) (a : Option Addr) (cap : Nat) (w : World) (hc : c.Ok) :
    Calls Tryz.prog 10 #[.agg #[.int .i64 c.N, .int .i64 c.Pi, .int .i64 c.E, .int .i64 c.G, .int .i64 c.F, .slice a c.P.length cap]] w fun e w' => e = .returned (.int .i64 (slotsI c)) ∧ Below w.heap.size w w' := by
  have h1 := hc.n6; have h2 := hc.n12; have h3 := hc.len
  go_enter Tryz.func10, Tryz.ntmps10
  go_wp2
  go_ret
  exact ⟨rfl, alloc_below _ _⟩

theorem rwire_any (c : Cf) (a : Option Addr) (cap : Nat) (r : Int) (w : World) (hc : c.Ok) (hr : 0 ≤ r) (hr2 : r ≤ 1099511627776) :
    Calls Tryz.prog 26 #[.agg #[.int .i64 c.N, .int .i64 c.Pi, .int .i64 c.E, .int .i64 c.G, .int .i64 c.F, .slice a c.P.length cap], .int .i64 r] w fun e w' => e = .returned (.int .i64 (wireI c r)) ∧ Below w.heap.size w w' := by
  have h1 := hc.f0; have h2 := hc.f1
  have HF := Lib.hid (show (c.F + r) % 65536 = wireI c r from rfl)
  go_enter Tryz.func26, Tryz.ntmps26
  go_wp2
  go_ret
  exact ⟨ret_int (by rw [← HF.out]), alloc_below _ _⟩

/-- The loop of In. -/
def InAt (zs : List Int) (x : Int) (i : Value) : Prop := ∃ k : Nat, k ≤ zs.length ∧ i = .int .i64 k ∧ inB (zs.take k) x = false

theorem in_step (zs : List Int) (x : Int) (k : Nat) (h : k < zs.length) (ha : inB (zs.take k) x = false) (hn : zs[k] ≠ x) : inB (zs.take (k + 1)) x = false := by
  unfold inB at *
  rw [List.take_succ_eq_append_getElem h, List.contains_eq_any_beq, List.any_append, ← List.contains_eq_any_beq, ha]
  simp
  exact fun e => hn e.symm
theorem in_hit (zs : List Int) (x : Int) (k : Nat) (h : k < zs.length) (hn : zs[k] = x) : inB zs x = true := by
  unfold inB
  rw [List.contains_iff_mem, ← hn]
  exact List.getElem_mem h
theorem in_end (zs : List Int) (x : Int) (k : Nat) (h : ¬ k < zs.length) (ha : inB (zs.take k) x = false) : inB zs x = false := by
  rw [List.take_of_length_le (by omega)] at ha
  exact ha

/-- The loop of Same. -/
def SameAt (xs ys : List Int) (w : World) (i : Value) (w' : World) : Prop := ∃ k : Nat, k ≤ xs.length ∧ i = .int .i64 k ∧ xs.take k = ys.take k ∧ Below w.heap.size w w'

theorem same_step (xs ys : List Int) (k : Nat) (h : k < xs.length) (h2 : k < ys.length) (ha : xs.take k = ys.take k) (e : xs[k] = ys[k]) : xs.take (k + 1) = ys.take (k + 1) := by
  rw [List.take_succ_eq_append_getElem h, List.take_succ_eq_append_getElem h2, ha, e]
theorem same_no (xs ys : List Int) (k : Nat) (h : k < xs.length) (h2 : k < ys.length) (e : xs[k] ≠ ys[k]) : (xs == ys) = false := by
  rw [beq_eq_false_iff_ne]
  rintro rfl
  exact e rfl
theorem same_end (xs ys : List Int) (k : Nat) (h : ¬ k < xs.length) (hl : xs.length = ys.length) (ha : xs.take k = ys.take k) : (xs == ys) = true := by
  rw [List.take_of_length_le (by omega), List.take_of_length_le (by omega)] at ha
  simp [ha]

end Go.Proofs.YtbghpkdkfbpmeaaGreat
/-
  The shelf's contracts of Go's own library functions, laid at this program: one application each.
-/
namespace Go.Proofs
open Go.Shelf
def Tryz.lays169_ren : Go.Shelf.Ren := ⟨fun | 169 => 75 | n => n, fun | 70 => 104 | 9 => 9 | 0 => 0 | 72 => 106 | 37 => 99 | 127 => 100 | 3 => 3 | 5 => 5 | n => n, fun | n => n⟩
theorem Tryz.lays169 : Go.Proofs.Lays.n169 Tryz.prog Tryz.lays169_ren := {
  mixed := by kernel_rfl
  f169 := Tryz.func75.trans (congrArg some (by kernel_rfl))
  t0 := Tryz.underlying0
  a0 := Tryz.isAgg0
  z0 := Tryz.sizeOf0
  v0 := Tryz.zeroValue0
  t3 := Tryz.underlying3
  a3 := Tryz.isAgg3
  z3 := Tryz.sizeOf3
  v3 := Tryz.zeroValue3
  t9 := Tryz.underlying9
  a9 := Tryz.isAgg9
  z9 := Tryz.sizeOf9
  v9 := Tryz.zeroValue9
  t37 := Tryz.underlying99
  a37 := Tryz.isAgg99
  z37 := Tryz.sizeOf99
  v37 := Tryz.zeroValue99
  t70 := Tryz.underlying104
  a70 := Tryz.isAgg104
  z70 := Tryz.sizeOf104
  v70 := Tryz.zeroValue104
  t72 := Tryz.underlying106
  a72 := Tryz.isAgg106
  z72 := Tryz.sizeOf106
  v72 := Tryz.zeroValue106
  t127 := Tryz.underlying100
  a127 := Tryz.isAgg100
  z127 := Tryz.sizeOf100
  v127 := Tryz.zeroValue100 }
theorem Tryz.Builder_Extra_169 : Builder.Extra Tryz.prog Tryz.lays169_ren := {
  sizeBuilder := by kernel_rfl
  liesBuilder := by kernel_rfl
  t5 := Tryz.underlying5
  a5 := Tryz.isAgg5
  z5 := Tryz.sizeOf5
  v5 := Tryz.zeroValue5
  infoByte := by kernel_rfl
  cellsByte := by kernel_rfl
  sizeByte := by kernel_rfl
  neB5 := by decide }
open Go.RowKit in
theorem Tryz.Builder_String (B b : Nat) (l : List UInt8) (w : World) (h : Lib.IsBuilder 106 5 B b (Lib.byteCells l) w) (h0 : l ≠ []) :
    Calls Tryz.prog 75 #[.pointer (some ⟨b, 0, none⟩)] w fun e w' => e = .returned (.string ⟨l.toArray⟩) ∧ Below B w w' := Any.Builder_String Tryz.lays169 Tryz.Builder_Extra_169 B b l w h h0
open Go.RowKit in
theorem Tryz.Builder_String_empty (B b : Nat) (w : World) (h : Lib.IsBuilder 106 5 B b [] w) (hBw : B ≤ w.heap.size) :
    Calls Tryz.prog 75 #[.pointer (some ⟨b, 0, none⟩)] w fun e w' => e = .returned (.string ⟨#[]⟩) ∧ Below B w w' := Any.Builder_String_empty Tryz.lays169 Tryz.Builder_Extra_169 B b w h hBw
open Go.RowKit in
theorem Tryz.Builder_String_any (B b : Nat) (l : List UInt8) (w : World) (h : Lib.IsBuilder 106 5 B b (Lib.byteCells l) w) (hBw : B ≤ w.heap.size) :
    Calls Tryz.prog 75 #[.pointer (some ⟨b, 0, none⟩)] w fun e w' => e = .returned (.string ⟨l.toArray⟩) ∧ Below B w w' := Any.Builder_String_any Tryz.lays169 Tryz.Builder_Extra_169 B b l w h hBw
def Tryz.laysM316_ren : Go.Shelf.Ren := ⟨fun | 316 => 54 | n => n, fun | 9 => 9 | 3 => 3 | 4 => 4 | 37 => 99 | 0 => 0 | 127 => 100 | 5 => 5 | n => n, fun | n => n⟩
theorem Tryz.laysM316 : Go.Proofs.LaysM.n316 Tryz.prog Tryz.laysM316_ren := {
  mixed := by kernel_rfl
  f316 := Tryz.func54.trans (congrArg some (by kernel_rfl))
  t0 := Tryz.underlying0
  a0 := Tryz.isAgg0
  z0 := Tryz.sizeOf0
  v0 := Tryz.zeroValue0
  t3 := Tryz.underlying3
  a3 := Tryz.isAgg3
  z3 := Tryz.sizeOf3
  v3 := Tryz.zeroValue3
  t4 := Tryz.underlying4
  a4 := Tryz.isAgg4
  z4 := Tryz.sizeOf4
  v4 := Tryz.zeroValue4
  t9 := Tryz.underlying9
  a9 := Tryz.isAgg9
  z9 := Tryz.sizeOf9
  v9 := Tryz.zeroValue9
  t37 := Tryz.underlying99
  a37 := Tryz.isAgg99
  z37 := Tryz.sizeOf99
  v37 := Tryz.zeroValue99
  t127 := Tryz.underlying100
  a127 := Tryz.isAgg100
  z127 := Tryz.sizeOf100
  v127 := Tryz.zeroValue100
  t5 := Tryz.underlying5
  a5 := Tryz.isAgg5
  z5 := Tryz.sizeOf5
  v5 := Tryz.zeroValue5
  i0 := by kernel_rfl
  i3 := by kernel_rfl
  i4 := by kernel_rfl
  i5 := by kernel_rfl
  i9 := by kernel_rfl
  i37 := by kernel_rfl
  i127 := by kernel_rfl }
open Go.RowKit in
theorem Tryz.stringslite_Clone (s : ByteArray) (w : World) (hlim : s.size ≤ 281474976710656) :
    Calls Tryz.prog 54 #[.string s] w fun e w' => e = .returned (.string s) ∧ Below w.heap.size w w' := Any.stringslite_Clone Tryz.laysM316 s w hlim
def Tryz.lays207_ren : Go.Shelf.Ren := ⟨fun | 207 => 105 | n => n, fun | 9 => 9 | 4 => 4 | 3 => 3 | n => n, fun | n => n⟩
theorem Tryz.lays207 : Go.Proofs.Lays.n207 Tryz.prog Tryz.lays207_ren := {
  mixed := by kernel_rfl
  f207 := Tryz.func105.trans (congrArg some (by kernel_rfl))
  t3 := Tryz.underlying3
  a3 := Tryz.isAgg3
  z3 := Tryz.sizeOf3
  v3 := Tryz.zeroValue3
  t4 := Tryz.underlying4
  a4 := Tryz.isAgg4
  z4 := Tryz.sizeOf4
  v4 := Tryz.zeroValue4
  t9 := Tryz.underlying9
  a9 := Tryz.isAgg9
  z9 := Tryz.sizeOf9
  v9 := Tryz.zeroValue9 }
open Go.RowKit Go.Lib in
theorem Tryz.stringslite_HasSuffix (s p : ByteArray) (w : World) (hs : s.size ≤ 9223372036854775807) :
    Calls Tryz.prog 105 #[.string s, .string p] w fun e w' => e = .returned (.bool (Lib.hasSuffix s.data.toList p.data.toList)) ∧ w' = w := Any.stringslite_HasSuffix Tryz.lays207 s p w hs
def Tryz.lays100_ren : Go.Shelf.Ren := ⟨fun | 100 => 102 | 207 => 105 | n => n, fun | 9 => 9 | 4 => 4 | 3 => 3 | n => n, fun | n => n⟩
theorem Tryz.lays100 : Go.Proofs.Lays.n100 Tryz.prog Tryz.lays100_ren := {
  mixed := by kernel_rfl
  f100 := Tryz.func102.trans (congrArg some (by kernel_rfl))
  f207 := Tryz.func105.trans (congrArg some (by kernel_rfl))
  t3 := Tryz.underlying3
  a3 := Tryz.isAgg3
  z3 := Tryz.sizeOf3
  v3 := Tryz.zeroValue3
  t4 := Tryz.underlying4
  a4 := Tryz.isAgg4
  z4 := Tryz.sizeOf4
  v4 := Tryz.zeroValue4
  t9 := Tryz.underlying9
  a9 := Tryz.isAgg9
  z9 := Tryz.sizeOf9
  v9 := Tryz.zeroValue9 }
open Go.RowKit Go.Lib in
theorem Tryz.strings_HasSuffix (s p : ByteArray) (w : World) (hs : s.size ≤ 9223372036854775807) :
    Calls Tryz.prog 102 #[.string s, .string p] w fun e w' => e = .returned (.bool (Lib.hasSuffix s.data.toList p.data.toList)) ∧ w' = w := Any.strings_HasSuffix Tryz.lays100 s p w hs
def Tryz.lays264_ren : Go.Shelf.Ren := ⟨fun | 264 => 89 | n => n, fun | 53 => 126 | 46 => 85 | n => n, fun | n => n⟩
theorem Tryz.lays264 : Go.Proofs.Lays.n264 Tryz.prog Tryz.lays264_ren := {
  mixed := by kernel_rfl
  f264 := Tryz.func89.trans (congrArg some (by kernel_rfl))
  t46 := Tryz.underlying85
  a46 := Tryz.isAgg85
  z46 := Tryz.sizeOf85
  v46 := Tryz.zeroValue85
  t53 := Tryz.underlying126
  a53 := Tryz.isAgg126
  z53 := Tryz.sizeOf126
  v53 := Tryz.zeroValue126 }
open Go.RowKit Go.Lib in
theorem Tryz.bits_Mul64 (x y : Nat) (hx : x < 18446744073709551616) (hy : y < 18446744073709551616) (w : World) :
    Calls Tryz.prog 89 #[.int .u64 x, .int .u64 y] w fun e w' => e = .returned (.tuple #[.int .u64 ((x * y / 18446744073709551616 : Nat) : Int), .int .u64 ((x * y % 18446744073709551616 : Nat) : Int)]) ∧ w' = w := Any.bits_Mul64 Tryz.lays264 x y hx hy w
def Tryz.lays212_ren : Go.Shelf.Ren := ⟨fun | 212 => 76 | 263 => 88 | 264 => 89 | n => n, fun | 46 => 85 | 51 => 123 | 146 => 124 | 53 => 126 | 148 => 127 | n => n, fun | n => n⟩
theorem Tryz.lays212 : Go.Proofs.Lays.n212 Tryz.prog Tryz.lays212_ren := {
  mixed := by kernel_rfl
  f212 := Tryz.func76.trans (congrArg some (by kernel_rfl))
  f263 := Tryz.func88.trans (congrArg some (by kernel_rfl))
  f264 := Tryz.func89.trans (congrArg some (by kernel_rfl))
  t46 := Tryz.underlying85
  a46 := Tryz.isAgg85
  z46 := Tryz.sizeOf85
  v46 := Tryz.zeroValue85
  t51 := Tryz.underlying123
  a51 := Tryz.isAgg123
  z51 := Tryz.sizeOf123
  v51 := Tryz.zeroValue123
  t53 := Tryz.underlying126
  a53 := Tryz.isAgg126
  z53 := Tryz.sizeOf126
  v53 := Tryz.zeroValue126
  t146 := Tryz.underlying124
  a146 := Tryz.isAgg124
  z146 := Tryz.sizeOf124
  v146 := Tryz.zeroValue124
  t148 := Tryz.underlying127
  a148 := Tryz.isAgg127
  z148 := Tryz.sizeOf127
  v148 := Tryz.zeroValue127 }
open Go.RowKit Go.Lib in
theorem Tryz.bits_Mul (x y : Nat) (hx : x < 18446744073709551616) (hy : y < 18446744073709551616) (w : World) :
    Calls Tryz.prog 76 #[.int .u64 x, .int .u64 y] w fun e w' => e = .returned (.tuple #[.int .u64 ((x * y / 18446744073709551616 : Nat) : Int), .int .u64 ((x * y % 18446744073709551616 : Nat) : Int)]) ∧ w' = w := Any.bits_Mul Tryz.lays212 x y hx hy w
end Go.Proofs
/-
  Contracts of package sym's inner functions: what each call answers, for every input; nothing that was in memory is changed.
-/
namespace Go.Proofs.YtbghpkdkfbpmeaaGreat
open Go.RowKit Plait
set_option maxRecDepth 100000
set_option linter.unusedVariables false

set_option maxHeartbeats 400000 in
theorem isBit_any (r : Int) (w : World) :
    Calls Tryz.prog 77 #[.int .i32 r] w fun e w' => e = .returned (.bool (r == 48 || r == 49)) ∧ w = w' := by
  by_cases h : r = 48
  · subst h
    go_enter Tryz.func77, Tryz.ntmps77
    go_wp2
    go_ret
    exact ⟨rfl, rfl⟩
  · have hb : (r == 48) = false := by simp [h]
    go_enter Tryz.func77, Tryz.ntmps77
    go_wp2
    go_ret
    exact ⟨by simp [hb], rfl⟩

/-- The loop over a text: where it stands, and that all bytes ahead of it are bits. -/
def RangeAt (l : List UInt8) (w : World) (w' : World) : Prop :=
  ∃ pos : Nat, pos ≤ l.length ∧ w' = w.iter ⟨l.toArray⟩ pos ∧ ∀ c ∈ l.take pos, bitB c = true

theorem below_iter (w : World) (s : ByteArray) (p : Nat) : Below w.heap.size w (w.iter s p) := (Below.refl _ w).alloc (Nat.le_refl _) _

theorem size_mk (l : List UInt8) : (⟨l.toArray⟩ : ByteArray).size = l.length := by simp [ByteArray.size]
@[go_sem] theorem get_mk (l : List UInt8) (k : Nat) (h : k < (⟨l.toArray⟩ : ByteArray).size) : (⟨l.toArray⟩ : ByteArray)[k]'h = l[k]'(by rw [size_mk] at h; exact h) := by
  simp [ByteArray.getElem_eq_getElem_data]
@[go_sem] theorem extract_from (l : List UInt8) (a b : Nat) : (⟨l.toArray⟩ : ByteArray).extract a b = ⟨((l.drop a).take (b - a)).toArray⟩ := ByteArray.extract_mk l a b

theorem bit_toNat (c : UInt8) : bitB c = true ↔ c.toNat = 48 ∨ c.toNat = 49 := by
  simp [bitB, ← UInt8.toNat_inj]

/-- A step of the loop over a text where a byte below 128 stands. -/
theorem next_ascii (l : List UInt8) (w : World) (pos : Nat) (hlt : pos < l.length) (ha : l[pos].toNat < 128) : ∀ ty, (Instr.next (.pointer (some ⟨w.heap.size, 0, none⟩)) true ty).run Tryz.prog (w.iter ⟨l.toArray⟩ pos) = .ok (.tuple #[.bool true, .int .i64 pos, .int .i32 (l[pos]).toNat]) (w.iter ⟨l.toArray⟩ (pos + 1)) := fun ty => by
  have hlt' : pos < (⟨l.toArray⟩ : ByteArray).size := by rw [size_mk]; exact hlt
  rw [run_next_ascii w _ pos ty hlt' (by rw [get_mk l pos hlt']; exact ha), get_mk l pos hlt']

/-- A step of the loop over a text where no such byte stands: the rune is none of those below 128. -/
theorem next_high (l : List UInt8) (w : World) (pos : Nat) (hlt : pos < l.length) (ha : ¬ l[pos].toNat < 128) : ∃ (r wd : Nat), 128 ≤ r ∧ r ≤ 2147483647 ∧ ∀ ty, (Instr.next (.pointer (some ⟨w.heap.size, 0, none⟩)) true ty).run Tryz.prog (w.iter ⟨l.toArray⟩ pos) = .ok (.tuple #[.bool true, .int .i64 pos, .int .i32 r]) (w.iter ⟨l.toArray⟩ (pos + wd)) := by
  have hlt' : pos < (⟨l.toArray⟩ : ByteArray).size := by rw [size_mk]; exact hlt
  have hd := decode_high ⟨l.toArray⟩ pos hlt' (by rw [get_mk l pos hlt']; omega)
  exact ⟨_, _, hd.1, decode_le _ _, fun ty => run_next_any w _ pos ty hlt'⟩

theorem next_end (l : List UInt8) (w : World) (pos : Nat) (hlt : ¬ pos < l.length) : ∀ ty, (Instr.next (.pointer (some ⟨w.heap.size, 0, none⟩)) true ty).run Tryz.prog (w.iter ⟨l.toArray⟩ pos) = .ok (.tuple #[.bool false]) (w.iter ⟨l.toArray⟩ pos) := fun ty =>
  run_next_end w _ pos ty (by rw [size_mk]; exact hlt)

set_option maxHeartbeats 400000 in
theorem streamLen_any (l : List UInt8) (w : World) (hs : l.length < 9223372036854775807) :
    Calls Tryz.prog 66 #[.string ⟨l.toArray⟩] w fun e w' => e = .returned (.int .i64 (slen l)) ∧ Below w.heap.size w w' := by
  go_enter Tryz.func66, Tryz.ntmps66
  go_wp2
  go_loopw [] (fun w' => RangeAt l w w') (fun w' => l.length - w'.iterPos w.heap.size)
  case atStart => exact ⟨0, Nat.zero_le _, rfl, by simp⟩
  case round =>
    obtain ⟨pos, hp, rfl, hb⟩ := hrel
    have HB := Lib.hid hb
    clear hb
    by_cases hlt : pos < l.length
    · by_cases ha : (l[pos]).toNat < 128
      · have hnx := next_ascii l w pos hlt ha
        by_cases h35 : l[pos].toNat = 35
        · have h1 : (((l[pos].toNat : Nat) : Int) == 35) = true := by simp [h35]
          have HF := Lib.hid (slen_at_tail l pos hlt HB.out (UInt8.toNat_inj.1 h35))
          clear h35
          go_wp2
          go_ret
          exact ⟨ret_int (by rw [HF.out]; simp), below_iter _ _ _⟩
        · have h1 : (((l[pos].toNat : Nat) : Int) == 35) = false := by simp; omega
          by_cases hbit : bitB l[pos] = true
          · have hbit' := (bit_toNat _).1 hbit
            have h2 : ((((l[pos].toNat : Nat) : Int) == 48) || (((l[pos].toNat : Nat) : Int) == 49)) = true := by simp; omega
            have HN := Lib.hid (bits_snoc l pos hlt HB.out hbit)
            clear h35 hbit hbit'
            go_wp2_with (go_at_call 77; refine (isBit_any _ _).mono ?_; rintro e w' ⟨rfl, rfl⟩; rw [h2])
            go_roundw
            case rel => exact ⟨pos + 1, by omega, rfl, HN.out⟩
            case measure => simp; omega
          · have h2 : ((((l[pos].toNat : Nat) : Int) == 48) || (((l[pos].toNat : Nat) : Int) == 49)) = false := by
              rw [bit_toNat] at hbit
              simp; omega
            have HF := Lib.hid (slen_at_other l pos hlt HB.out (fun e => h35 (by rw [e]; rfl)) (by simpa using hbit))
            clear h35 hbit
            go_wp2_with (go_at_call 77; refine (isBit_any _ _).mono ?_; rintro e w' ⟨rfl, rfl⟩; rw [h2])
            go_ret
            exact ⟨ret_int (by rw [HF.out]), below_iter _ _ _⟩
      · obtain ⟨r, wd, hr, hr2, hnx⟩ := next_high l w pos hlt ha
        have h1 : ((r : Int) == 35) = false := by simp; omega
        have h2 : (((r : Int) == 48) || ((r : Int) == 49)) = false := by simp; omega
        have HF := Lib.hid (slen_at_other l pos hlt HB.out (fun e => ha (by rw [e]; decide)) (by rw [Bool.eq_false_iff]; intro e; rw [bit_toNat] at e; omega))
        clear ha
        go_wp2_with (go_at_call 77; refine (isBit_any _ _).mono ?_; rintro e w' ⟨rfl, rfl⟩; rw [h2])
        go_ret
        exact ⟨ret_int (by rw [HF.out]), below_iter _ _ _⟩
    · have hnx := next_end l w pos hlt
      have HF := Lib.hid (slen_at_end l (by rw [show l.length = pos by omega]; exact HB.out))
      go_wp2
      go_ret
      exact ⟨ret_int (by rw [HF.out]), below_iter _ _ _⟩

end Go.Proofs.YtbghpkdkfbpmeaaGreat
/-
  Contracts of package sym: Clean, Common, Front, Whole, Turn: what each call answers, for every text; nothing that was in memory is changed.
-/
namespace Go.Proofs.YtbghpkdkfbpmeaaGreat
open Go.RowKit Plait
set_option maxRecDepth 100000
set_option linter.unusedVariables false

theorem clone_any (s : ByteArray) (w : World) (hs : s.size ≤ 1099511627776) :
    Calls Tryz.prog 36 #[.string s] w fun e w' => e = .returned (.string s) ∧ Below w.heap.size w w' := by
  go_enter Tryz.func36, Tryz.ntmps36
  go_wp2_with fail
  refine (Tryz.stringslite_Clone s w (by omega)).mono ?_
  rintro e w' ⟨rfl, hb⟩
  go_wp2
  go_ret
  exact ⟨rfl, hb⟩

theorem clean_any (l : List UInt8) (w : World) (hs : l.length ≤ 1099511627776) :
    Calls Tryz.prog 56 #[.string ⟨l.toArray⟩] w fun e w' => e = .returned (.string ⟨(clean l).toArray⟩) ∧ Below w.heap.size w w' := by
  have hle := slen_le l
  go_enter Tryz.func56, Tryz.ntmps56
  go_wp2_with fail
  refine (streamLen_any l _ (by omega)).mono ?_
  rintro e w' ⟨rfl, hb⟩
  go_wp2_with fail
  refine (clone_any _ _ (by rw [size_mk]; simp; omega)).mono ?_
  rintro e w2 ⟨rfl, hb2⟩
  go_wp2
  go_ret
  exact ⟨rfl, hb.trans (hb2.mono hb.size)⟩

theorem ret_str {a b : List UInt8} (h : a = b) : Ending.returned (.string ⟨a.toArray⟩) = .returned (.string ⟨b.toArray⟩) := by rw [h]
/-- The loop of Common: all bytes ahead are the same. -/
def ComAt (l m : List UInt8) (n : Value) : Prop :=
  ∃ k : Nat, k ≤ l.length ∧ k ≤ m.length ∧ l.take k = m.take k ∧ n = .int .i64 k

theorem suffix_tail (l : List UInt8) : Lib.hasSuffix l [35] = (l.getLast? == some 35) := by
  unfold Lib.hasSuffix
  rcases List.eq_nil_or_concat l with rfl | ⟨m, c, rfl⟩
  · rfl
  · simp [List.isSuffixOf, List.isPrefixOf]
    exact BEq.comm

theorem whole_any (l : List UInt8) (w : World) (hs : l.length ≤ 1099511627776) :
    Calls Tryz.prog 90 #[.string ⟨l.toArray⟩] w fun e w' => e = .returned (.bool (wholeB l)) ∧ Below w.heap.size w w' := by
  by_cases h : Lib.hasSuffix l [35] = true
  · go_enter Tryz.func90, Tryz.ntmps90
    go_wp2_with fail
    refine (Tryz.strings_HasSuffix _ _ _ (by rw [size_mk]; omega)).mono ?_
    rintro e w2 ⟨rfl, rfl⟩
    go_wp2_with fail
    refine (streamLen_any l _ (by omega)).mono ?_
    rintro e w3 ⟨rfl, hb⟩
    go_wp2
    go_ret
    exact ⟨ret_bool (by rw [suffix_tail] at h; rw [wholeB, h, Bool.true_and, Bool.eq_iff_iff, beq_iff_eq, beq_iff_eq]; omega), hb⟩
  · rw [Bool.not_eq_true] at h
    go_enter Tryz.func90, Tryz.ntmps90
    go_wp2_with fail
    refine (Tryz.strings_HasSuffix _ _ _ (by rw [size_mk]; omega)).mono ?_
    rintro e w2 ⟨rfl, rfl⟩
    go_wp2
    go_ret
    exact ⟨ret_bool (by rw [suffix_tail] at h; rw [wholeB, h]; rfl), Below.refl _ _⟩

theorem other_any (c : UInt8) (w : World) :
    Calls Tryz.prog 78 #[.int .u8 c.toNat] w fun e w' => e = .returned (.int .u8 (other c).toNat) ∧ w = w' := by
  by_cases h1 : c = 48
  · subst h1
    go_enter Tryz.func78, Tryz.ntmps78
    go_wp2
    go_ret
    exact ⟨rfl, rfl⟩
  by_cases h2 : c = 49
  · subst h2
    go_enter Tryz.func78, Tryz.ntmps78
    go_wp2
    go_ret
    exact ⟨rfl, rfl⟩
  by_cases h3 : c = 35
  · subst h3
    go_enter Tryz.func78, Tryz.ntmps78
    go_wp2
    go_ret
    exact ⟨rfl, rfl⟩
  have d1 : ((c.toNat : Int) == 48) = false := by rw [beq_eq_false_iff_ne]; intro e; exact h1 (UInt8.toNat_inj.1 (by simpa using (by omega : c.toNat = 48)))
  have d2 : ((c.toNat : Int) == 49) = false := by rw [beq_eq_false_iff_ne]; intro e; exact h2 (UInt8.toNat_inj.1 (by simpa using (by omega : c.toNat = 49)))
  have d3 : ((c.toNat : Int) == 35) = false := by rw [beq_eq_false_iff_ne]; intro e; exact h3 (UInt8.toNat_inj.1 (by simpa using (by omega : c.toNat = 35)))
  have HF := Lib.hid (show other c = c by simp [other, h1, h2, h3])
  clear h1 h2 h3
  go_enter Tryz.func78, Tryz.ntmps78
  go_wp2
  go_ret
  exact ⟨ret_int (by rw [HF.out]), rfl⟩

end Go.Proofs.YtbghpkdkfbpmeaaGreat
/-
  Contract of sym.Turn: for every text and place; nothing that was in memory is changed.
-/
namespace Go.Proofs.YtbghpkdkfbpmeaaGreat
open Go.RowKit Plait
set_option maxRecDepth 100000
set_option linter.unusedVariables false

theorem turn_out (l : List UInt8) (i : Int) (h : i < 0 ∨ (l.length : Int) ≤ i) : turn l i = l := by
  unfold turn
  rw [if_neg (by omega)]

theorem turn_in (l : List UInt8) (k : Nat) (h : k < l.length) : turn l (k : Int) = l.set k (other l[k]) := by
  unfold turn
  rw [if_pos (by omega)]
  simp [h]

theorem addr_add (b o j : Nat) : (⟨b, o, none⟩ : Addr).add j = ⟨b, o + j, none⟩ := by
  unfold Addr.add
  by_cases hj : j = 0 <;> simp [hj]

/-- A row of bytes, made out of a text: what was in memory stays. -/
theorem bytes_row (l : List UInt8) (w : World) : ∃ (C : Array Value) (cap : Nat), l.length ≤ C.size ∧ (∀ k (hk : k < l.length), C[k]? = some (.int .u8 (l[k].toNat : Int))) ∧
    (convert 9 99 (.string ⟨l.toArray⟩)).run Tryz.prog w = .ok (.slice (some ⟨w.heap.size, 0, none⟩) l.length cap) (w.drew.alloc (.cells C 5 (C.size, C.size + 1))) := by
  have h := run_bytes_of_string (P := Tryz.prog) w 9 99 5 ⟨l.toArray⟩ Tryz.underlying9 Tryz.underlying99 Tryz.underlying5
  rw [size_mk] at h
  refine ⟨_, _, ?_, ?_, h⟩
  · simp [bytesRow]
  · intro k hk
    have := bytesRow_at ⟨l.toArray⟩ (grownCap w l.length 0 5) k (by simpa using hk)
    rw [this]
    simp

set_option maxHeartbeats 400000 in
theorem turn_any (l : List UInt8) (i : Int) (w : World) (hs : l.length ≤ 1099511627776) :
    Calls Tryz.prog 67 #[.string ⟨l.toArray⟩, .int .i64 i] w fun e w' => e = .returned (.string ⟨(turn l i).toArray⟩) ∧ Below w.heap.size w w' := by
  by_cases h0 : i < 0
  · have HF := Lib.hid (turn_out l i (.inl h0))
    go_enter Tryz.func67, Tryz.ntmps67
    go_wp2_with (go_at_call 36; refine (clone_any _ _ (by rw [size_mk]; omega)).mono ?_; rintro e w2 ⟨rfl, hb2⟩)
    go_ret
    exact ⟨ret_str HF.out.symm, hb2⟩
  by_cases h1 : (l.length : Int) ≤ i
  · have HF := Lib.hid (turn_out l i (.inr h1))
    go_enter Tryz.func67, Tryz.ntmps67
    go_wp2_with (go_at_call 36; refine (clone_any _ _ (by rw [size_mk]; omega)).mono ?_; rintro e w2 ⟨rfl, hb2⟩)
    go_ret
    exact ⟨ret_str HF.out.symm, hb2⟩
  obtain ⟨k, rfl⟩ := Int.eq_ofNat_of_zero_le (by omega : 0 ≤ i)
  have hk : k < l.length := by omega
  have HF := Lib.hid (turn_in l k hk)
  obtain ⟨C, cap, hC, hcells, hconv⟩ := bytes_row l w
  have hc : (w.alloc (.cells C 5 (C.size, C.size + 1))).cell? ⟨w.heap.size, k, none⟩ = some (.int .u8 (l[k].toNat : Int)) := by rw [World.cell?_alloc_mark, hcells k hk]
  have hz : (w.alloc (.cells C 5 (C.size, C.size + 1))).frozen? ⟨w.heap.size, k, none⟩ = false := by
    rw [World.frozen?_alloc_mark]; simp; omega
  have hback : (convert 99 9 (.slice (some ⟨w.heap.size, 0, none⟩) l.length cap)).run Tryz.prog ((w.alloc (.cells C 5 (C.size, C.size + 1))).setCell ⟨w.heap.size, k, none⟩ (.int .u8 ((other l[k]).toNat : Int))).drew = .ok (.string ⟨(l.set k (other l[k])).toArray⟩) ((w.alloc (.cells C 5 (C.size, C.size + 1))).setCell ⟨w.heap.size, k, none⟩ (.int .u8 ((other l[k]).toNat : Int))).drew := by
    have h := run_convert_bytes_back (P := Tryz.prog) ((w.alloc (.cells C 5 (C.size, C.size + 1))).setCell ⟨w.heap.size, k, none⟩ (.int .u8 ((other l[k]).toNat : Int))).drew 99 9 5 ⟨w.heap.size, 0, none⟩ cap (l.set k (other l[k])) Tryz.underlying99 Tryz.underlying5 Tryz.underlying9 (fun j hj => by
      show ((w.alloc (.cells C 5 (C.size, C.size + 1))).setCell ⟨w.heap.size, k, none⟩ (.int .u8 ((other l[k]).toNat : Int))).cell? ((⟨w.heap.size, 0, none⟩ : Addr).add j) = _
      rw [addr_add, Nat.zero_add]
      by_cases hjk : j = k
      · subst hjk
        rw [World.cell?_setCell_same _ _ _ hc]
        simp
      · rw [World.cell?_setCell_other _ _ _ _ (by simp), World.cell?_alloc_mark, hcells j (by simpa using hj), List.getElem_set_ne (by omega)])
    simpa using h
  clear hcells h0 h1
  go_enter Tryz.func67, Tryz.ntmps67
  go_wp2_with fail
  refine (other_any l[k] _).mono ?_
  rintro e w2 ⟨rfl, rfl⟩
  go_wp2
  go_ret
  exact ⟨ret_str HF.out.symm, (((Below.refl _ w).alloc (Nat.le_refl _) _).setCell (Nat.le_refl _) _).drew⟩

end Go.Proofs.YtbghpkdkfbpmeaaGreat
/-
  Contracts of sym.Bits and sym.Num: for every number, size and text; nothing that was in memory is changed.
-/
namespace Go.Proofs.YtbghpkdkfbpmeaaGreat
open Go.RowKit Plait
set_option maxRecDepth 100000
set_option linter.unusedVariables false

theorem wrap_small (n : Int) (h0 : 0 ≤ n) (h1 : n < 9223372036854775808) : IntKind.i64.wrap n = n := by
  rw [IntKind.wrap_i64]; omega

/-- The lowest bits of any number. -/
theorem and_mask (x : Int) (k : Nat) (hk : k ≤ 62) : bits .and .i64 x ((2 : Int) ^ k - 1) = x % 2 ^ k := by
  have hp : (2 : Nat) ^ k ≤ 2 ^ 62 := Nat.pow_le_pow_right (by decide) hk
  have hp0 : 0 < (2 : Nat) ^ k := Nat.pow_pos (by decide)
  have e1 : ((2 : Int) ^ k - 1) = ((2 ^ k - 1 : Nat) : Int) := by
    rw [Int.natCast_sub hp0]; simp
  have e2 : ((2 : Int) ^ k) = ((2 ^ k : Nat) : Int) := by simp
  have hb : (BitVec.ofInt 64 ((2 ^ k - 1 : Nat) : Int)).toNat = 2 ^ k - 1 := by
    rw [BitVec.toNat_ofInt]
    have : (2 : Nat) ^ 62 = 4611686018427387904 := by decide
    simp only [Nat.reducePow]
    omega
  have ha : ((BitVec.ofInt 64 x).toNat : Int) = x % 18446744073709551616 := by
    rw [BitVec.toNat_ofInt]
    simp only [Nat.reducePow]
    omega
  have hdef : bits .and .i64 x ((2 : Int) ^ k - 1) = IntKind.i64.wrap ((BitVec.ofInt 64 x &&& BitVec.ofInt 64 ((2 : Int) ^ k - 1)).toNat : Int) := rfl
  rw [hdef, e1, BitVec.toNat_and, hb, Nat.and_two_pow_sub_one_eq_mod]
  have hlt : (BitVec.ofInt 64 x).toNat % 2 ^ k < 2 ^ k := Nat.mod_lt _ hp0
  have h62 : (2 : Nat) ^ 62 = 4611686018427387904 := by decide
  rw [wrap_small _ (by omega) (by omega), Int.natCast_emod, ha, e2]
  have hd : ((2 ^ k : Nat) : Int) ∣ 18446744073709551616 := by
    have : (2 : Nat) ^ k ∣ 2 ^ 64 := Nat.pow_dvd_pow 2 (by omega)
    exact Int.natCast_dvd_natCast.2 this
  exact Int.emod_emod_of_dvd x hd

theorem and_one (x : Int) : bits .and .i64 x 1 = x % 2 := by
  have := and_mask x 1 (by decide)
  simpa using this

/-- A made row of bytes. -/
theorem make_bytes (n : Nat) (hn : n ≤ 1048576) : ∃ M : Array Value, M.size = n ∧ (∀ k, k < n → ∃ v, M[k]? = some v) ∧ ∀ W : World, (Instr.makeSlice 99 (.int .i64 (n : Int)) (.int .i64 (n : Int))).run Tryz.prog W = .ok (.slice (some ⟨W.heap.size, 0, none⟩) n n) (W.alloc (.cells M 5)) := by
  obtain ⟨i0, hi, hz0, hz1, hz2⟩ := info_parts (show (Tryz.prog.info? 5).map (fun i => (i.zero, i.size, i.bytes)) = some (some (.int .u8 0), 1, 1) by kernel_rfl)
  refine ⟨madeCells (Value.int .u8 0).cells (((n : Nat) : Int).toNat * i0.size), by rw [size_madeCells, hz1]; simp, fun k hk => ?_, fun W => ?_⟩
  · have hs : (madeCells (Value.int .u8 0).cells (((n : Nat) : Int).toNat * i0.size)).size = n := by rw [size_madeCells, hz1]; simp
    exact ⟨_, Array.getElem?_eq_getElem (by rw [hs]; exact hk)⟩
  · have h := run_make (P := Tryz.prog) W 99 5 i0 (.int .u8 0) Tryz.underlying99 hi hz0 .i64 .i64 (n : Int) (n : Int) (by omega) (by omega) (by rw [hz2]; omega) (by omega)
    simpa using h

end Go.Proofs.YtbghpkdkfbpmeaaGreat
