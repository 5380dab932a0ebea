/-
  Plain mathematics of frames, with no program in it: what is allowed, how a frame is written and read.
-/
import Derived.Test.YtkflijbhlibadabDoorK1
import Derived.Shelf.LaysM
import Derived.Shelf.Strconv.Clone
import Derived.Shelf.Strings.Prefix
import Derived.Test.YtkflijbhlibadabDoorProg
import Derived.WalkKit
import Derived.WalkSpells
import Derived.WalkLawsBesides
import Derived.Lib.Hide
import Derived.BigQuiet
import Derived.Deep.QuietTactic
import Derived.Laws.IdiomStrings
import Derived.Laws.MakeOwn
import Derived.RegionTactic
import Derived.Deep.RegionHeld3
namespace Plait

structure It where
  K : Int
  V : Int
deriving DecidableEq, Inhabited

structure Fr where
  K : Int
  R : Int
  S : Int
  P : It
  E : List It
deriving DecidableEq, Inhabited

def itemB (i : It) (carries : Bool) : Bool := if i.K = 0 then i.V == 0 && !carries else if i.K = 1 then i.V == 0 else if i.K = 2 then decide (0 ≤ i.V) && decide (i.V ≤ 255) else false

/-- How many items such a frame's Echo has. -/
def echoI (c : Cf) (k s : Int) : Int := if k = 3 ∧ s < c.N then slotsI c else 0

/-- The first two tests of a frame, and the third. -/
def badA (c : Cf) (f : Fr) : Bool := decide (f.S < 0) || decide (slotsI c ≤ f.S) || decide (f.R < 0) || decide (65536 ≤ f.R)
def badK (c : Cf) (f : Fr) : Bool := decide (f.K < 1) || decide (3 < f.K) || (f.K != 3 && decide (c.N ≤ f.S))
def badP (f : Fr) : Bool := !itemB f.P (f.K == 3) || (f.K != 3 && f.P.K != 0)

def checkF (c : Cf) (f : Fr) : Int :=
  if badA c f then 1 else if badK c f then 6 else if badP f then 1 else if (f.E.length : Int) ≠ echoI c f.K f.S then 2 else if f.E.all (itemB · false) then 0 else 1

theorem checkF_a (c : Cf) (f : Fr) (h : badA c f = true) : checkF c f = 1 := by simp [checkF, h]
theorem checkF_k (c : Cf) (f : Fr) (h : badA c f = false) (h2 : badK c f = true) : checkF c f = 6 := by simp [checkF, h, h2]
theorem checkF_p (c : Cf) (f : Fr) (h : badA c f = false) (h2 : badK c f = false) (h3 : badP f = true) : checkF c f = 1 := by simp [checkF, h, h2, h3]
theorem checkF_l (c : Cf) (f : Fr) (h : badA c f = false) (h2 : badK c f = false) (h3 : badP f = false) (h4 : (f.E.length : Int) ≠ echoI c f.K f.S) : checkF c f = 2 := by simp [checkF, h, h2, h3, h4]
theorem checkF_e (c : Cf) (f : Fr) (h : badA c f = false) (h2 : badK c f = false) (h3 : badP f = false) (h4 : (f.E.length : Int) = echoI c f.K f.S) : checkF c f = if f.E.all (itemB · false) then 0 else 1 := by simp [checkF, h, h2, h3, h4]

/-- A frame that may be. -/
structure Fr.Ok (c : Cf) (f : Fr) : Prop where
  s0 : 0 ≤ f.S
  s1 : f.S < slotsI c
  r0 : 0 ≤ f.R
  r1 : f.R < 65536
  k1 : 1 ≤ f.K
  k3 : f.K ≤ 3
  kp : f.K = 3 ∨ f.S < c.N
  p : itemB f.P (f.K == 3) = true
  pz : f.K = 3 ∨ f.P.K = 0
  len : (f.E.length : Int) = echoI c f.K f.S
  all : ∀ i ∈ f.E, itemB i false = true

theorem Fr.Ok.check {c : Cf} {f : Fr} (h : f.Ok c) : checkF c f = 0 := by
  obtain ⟨s0, s1, r0, r1, k1, k3, kp, p, pz, len, all⟩ := h
  have a : badA c f = false := by simp [badA]; omega
  have k : badK c f = false := by simp [badK]; omega
  have q : badP f = false := by
    unfold badP
    rw [p]
    simp
    omega
  rw [checkF_e c f a k q len, if_pos (List.all_eq_true.2 all)]

theorem Fr.Ok.of {c : Cf} {f : Fr} (h : checkF c f = 0) : f.Ok c := by
  unfold checkF at h
  split at h
  · simp at h
  · rename_i a
    split at h
    · simp at h
    · rename_i k
      split at h
      · simp at h
      · rename_i p
        split at h
        · simp at h
        · rename_i l
          split at h
          · rename_i e
            have a' : badA c f = false := by simpa using a
            have k' : badK c f = false := by simpa using k
            have p' : badP f = false := by simpa using p
            simp [badA] at a'
            simp [badK] at k'
            unfold badP at p'
            rw [Bool.or_eq_false_iff] at p'
            refine ⟨by omega, by omega, by omega, by omega, by omega, by omega, ?_, by simpa using p'.1, ?_, by omega, List.all_eq_true.1 e⟩
            · by_cases h1 : f.S < c.N
              · exact .inr h1
              · exact .inl (by omega)
            · have := p'.2
              simp at this
              by_cases h3 : f.K = 3
              · exact .inl h3
              · exact .inr (this h3)
          · simp at h

def itBits (i : It) : List UInt8 := bitsL i.K 2 ++ bitsL i.V 8
def frHead (f : Fr) : List UInt8 := bitsL f.K 2 ++ bitsL f.R 16 ++ bitsL f.S 6 ++ itBits f.P
def frBits (f : Fr) : List UInt8 := frHead f ++ f.E.flatMap itBits
def textF (f : Fr) : List UInt8 := wrapL (frBits f)

theorem itBits_length (i : It) : (itBits i).length = 10 := by simp [itBits, bitsL_length]
theorem frHead_length (f : Fr) : (frHead f).length = 34 := by simp [frHead, bitsL_length, itBits_length]
theorem items_length : ∀ E : List It, (E.flatMap itBits).length = 10 * E.length
  | [] => rfl
  | i :: r => by rw [List.flatMap_cons, List.length_append, itBits_length, items_length r, List.length_cons]; omega
theorem frBits_length (f : Fr) : (frBits f).length = 34 + 10 * f.E.length := by rw [frBits, List.length_append, frHead_length, items_length]
theorem textF_length (f : Fr) : (textF f).length = 51 + 10 * f.E.length := by rw [textF, wrapL_length, frBits_length]; omega

theorem itBits_all (i : It) : allBits (itBits i) := by
  intro c hc
  rcases List.mem_append.1 hc with h | h
  · exact bits_all _ _ c h
  · exact bits_all _ _ c h
theorem frHead_all (f : Fr) : allBits (frHead f) := by
  intro c hc
  rcases List.mem_append.1 hc with h | h
  · rcases List.mem_append.1 h with h | h
    · rcases List.mem_append.1 h with h | h
      · exact bits_all _ _ c h
      · exact bits_all _ _ c h
    · exact bits_all _ _ c h
  · exact itBits_all _ c h
theorem frBits_all (f : Fr) : allBits (frBits f) := by
  intro c hc
  rcases List.mem_append.1 hc with h | h
  · exact frHead_all f c h
  · obtain ⟨i, _, h⟩ := List.mem_flatMap.1 h
    exact itBits_all i c h

/-- What a number's bits say. -/
def num0 (l : List UInt8) : Int := if numOk l then (numV l : Int) else 0

theorem num0_bits (x : Int) (k : Nat) (h1 : 1 ≤ k) (h2 : k ≤ 62) (h0 : 0 ≤ x) (hx : x < 2 ^ k) : num0 (bitsL x k) = x := by
  have ho : numOk (bitsL x k) = true := by
    simp [numOk, bitsL_length, h1, h2]
    exact bits_all x k
  rw [num0, if_pos ho, numV_bits]
  exact Int.emod_eq_of_lt h0 hx

theorem num0_range (l : List UInt8) (k : Nat) (h : l.length ≤ k) : 0 ≤ num0 l ∧ num0 l < 2 ^ k := by
  unfold num0
  split
  · have h1 := numV_lt l
    have h2 : (2 : Nat) ^ l.length ≤ 2 ^ k := Nat.pow_le_pow_right (by decide) h
    have h3 : numV l < 2 ^ k := Nat.lt_of_lt_of_le h1 h2
    exact ⟨by omega, by exact_mod_cast h3⟩
  · exact ⟨by omega, Int.pow_pos (by omega)⟩

def itOf (l : List UInt8) : It := ⟨num0 (l.take 2), num0 ((l.drop 2).take 8)⟩
def frOf (b : List UInt8) : Fr := ⟨num0 (b.take 2), num0 ((b.drop 2).take 16), num0 ((b.drop 18).take 6), itOf ((b.drop 24).take 10), []⟩
def itsOf (l : List UInt8) (n : Nat) : List It := (List.range n).map fun i => itOf ((l.drop (10 * i)).take 10)

def Fr.with (f : Fr) (E : List It) : Fr := { f with E := E }
def zeroF : Fr := ⟨0, 0, 0, ⟨0, 0⟩, []⟩

/-- What Read answers of the bits. -/
def readB (c : Cf) (b : List UInt8) : Fr × Int :=
  if b.length < 34 then (zeroF, 3)
  else if (b.length : Int) - 34 ≠ 10 * echoI c (frOf b).K (frOf b).S then (zeroF, 2)
  else if checkF c ((frOf b).with (itsOf (b.drop 34) ((b.length - 34) / 10))) ≠ 0 then (zeroF, checkF c ((frOf b).with (itsOf (b.drop 34) ((b.length - 34) / 10))))
  else ((frOf b).with (itsOf (b.drop 34) ((b.length - 34) / 10)), 0)

/-- What Read answers. -/
def readF (c : Cf) (l : List UInt8) : Fr × Int := if (openP l).2 ≠ 0 then (zeroF, (openP l).2) else readB c (openP l).1

theorem itOf_bits (i : It) (b : Bool) (h : itemB i b = true) : itOf (itBits i) = i := by
  have hK : (0 ≤ i.K ∧ i.K < 4) ∧ 0 ≤ i.V ∧ i.V < 256 := by
    unfold itemB at h
    split at h
    · simp at h; omega
    · split at h
      · simp at h; omega
      · split at h
        · simp at h; omega
        · simp at h
  obtain ⟨⟨k0, k1⟩, v0, v1⟩ := hK
  unfold itOf itBits
  rw [List.take_left' (bitsL_length _ _), List.drop_left' (bitsL_length _ _), List.take_of_length_le (by rw [bitsL_length]; omega), num0_bits i.K 2 (by omega) (by omega) k0 (by omega), num0_bits i.V 8 (by omega) (by omega) v0 (by omega)]

theorem itsOf_bits : ∀ (E : List It), (∀ i ∈ E, itemB i false = true) → itsOf (E.flatMap itBits) E.length = E
  | [], _ => rfl
  | i :: r, h => by
    have ih := itsOf_bits r (fun j hj => h j (List.mem_cons_of_mem _ hj))
    unfold itsOf at ih ⊢
    rw [List.length_cons, List.range_succ_eq_map, List.map_cons, List.map_map, List.flatMap_cons]
    refine List.cons_eq_cons.2 ⟨?_, ?_⟩
    · rw [Nat.mul_zero, List.drop_zero, List.take_left' (itBits_length i)]
      exact itOf_bits i false (h i (List.mem_cons_self ..))
    · refine Eq.trans ?_ ih
      apply List.map_congr_left
      intro k _
      show itOf ((List.drop (10 * (k + 1)) (itBits i ++ List.flatMap itBits r)).take 10) = _
      rw [show 10 * (k + 1) = 10 + 10 * k by omega, ← List.drop_drop, List.drop_left' (itBits_length i)]

theorem frOf_bits (c : Cf) (f : Fr) (hc : c.Ok) (h : f.Ok c) (E : List UInt8) : frOf (frHead f ++ E) = f.with [] := by
  obtain ⟨s0, s1, r0, r1, k1, k3, kp, p, pz, len, all⟩ := h
  have hs : slotsI c ≤ 15 := by have := hc.n12; have := hc.len; unfold slotsI; omega
  unfold frOf Fr.with frHead
  simp only [List.append_assoc]
  rw [List.take_left' (bitsL_length _ _), List.drop_left' (bitsL_length _ _), List.take_left' (bitsL_length _ _)]
  rw [show (18 : Nat) = 2 + 16 by rfl, ← List.drop_drop, List.drop_left' (bitsL_length _ _), List.drop_left' (bitsL_length _ _), List.take_left' (bitsL_length _ _)]
  rw [show (24 : Nat) = 2 + 16 + 6 by rfl, ← List.drop_drop, ← List.drop_drop, List.drop_left' (bitsL_length _ _), List.drop_left' (bitsL_length _ _), List.drop_left' (bitsL_length _ _), List.take_left' (itBits_length _)]
  rw [num0_bits f.K 2 (by omega) (by omega) (by omega) (by omega), num0_bits f.R 16 (by omega) (by omega) (by omega) (by omega), num0_bits f.S 6 (by omega) (by omega) (by omega) (by omega), itOf_bits f.P _ p]

/-- What was written is read as it was. -/
theorem readB_bits (c : Cf) (f : Fr) (hc : c.Ok) (h : f.Ok c) : readB c (frBits f) = (f, 0) := by
  have hl := frBits_length f
  have ho := frOf_bits c f hc h (f.E.flatMap itBits)
  have hi := itsOf_bits f.E h.all
  have e : (frOf (frBits f)).with (itsOf ((frBits f).drop 34) (((frBits f).length - 34) / 10)) = f := by
    rw [show ((frBits f).length - 34) / 10 = f.E.length by omega]
    unfold frBits
    rw [ho, List.drop_left' (frHead_length f), hi]
    rfl
  unfold readB
  rw [e, if_neg (by omega), if_neg, if_neg]
  · rw [h.check]; simp
  · have : (frOf (frBits f)).K = f.K ∧ (frOf (frBits f)).S = f.S := by
      unfold frBits
      rw [ho]
      exact ⟨rfl, rfl⟩
    rw [this.1, this.2, ← h.len]
    omega

theorem readF_text (c : Cf) (f : Fr) (hc : c.Ok) (h : f.Ok c) : readF c (textF f) = (f, 0) := by
  unfold readF textF
  rw [open_wrap _ (frBits_all f)]
  simp
  exact readB_bits c f hc h

theorem textF_inj (c : Cf) (f g : Fr) (hc : c.Ok) (hf : f.Ok c) (hg : g.Ok c) (h : textF f = textF g) : f = g := by
  have h1 := readF_text c f hc hf
  have h2 := readF_text c g hc hg
  rw [h, h2] at h1
  exact (Prod.ext_iff.1 h1).1.symm

/-- A front of a frame's text but itself. -/
theorem front_refused (f : Fr) (k : Nat) (h : k < (textF f).length) (c : Cf) : readF c ((textF f).take k) = (zeroF, 4) := by
  have hb : allBits ((textF f).take k) := by
    have hk : k ≤ (wrapB (frBits f)).length := by
      rw [textF, wrapL_length] at h
      rw [wrapB_length]
      omega
    unfold textF
    rw [wrapL_eq, List.take_append_of_le_length hk]
    exact fun c hc => wrapB_bits _ (frBits_all f) c (List.mem_of_mem_take hc)
  have ho : openP ((textF f).take k) = ([], 4) := by
    unfold openP
    rw [if_pos (bits_not_whole _ hb)]
  unfold readF
  rw [ho]
  rfl

theorem behind_refused (f : Fr) (s : UInt8) (c : Cf) : readF c (textF f ++ [s]) = (zeroF, 4) := by
  unfold readF textF
  rw [more_behind _ (frBits_all f)]
  rfl

theorem turn1_refused (f : Fr) (k : Nat) (h : k + 1 < (textF f).length) (c : Cf) : readF c (turn (textF f) (k : Int)) = (zeroF, 5) := by
  have hk : k < (frBits f).length + 16 := by rw [textF, wrapL_length] at h; omega
  unfold readF textF
  rw [one_refused _ (frBits_all f) k hk]
  rfl

theorem turn2_refused (f : Fr) (i j : Nat) (hE : f.E.length ≤ 15) (hi : i + 1 < (textF f).length) (hj : j + 1 < (textF f).length) (hij : i ≠ j) (c : Cf) : readF c (turn (turn (textF f) (i : Int)) (j : Int)) = (zeroF, 5) := by
  have hl := frBits_length f
  rw [textF, wrapL_length] at hi hj
  unfold readF textF
  rw [two_refused _ (frBits_all f) (by omega) i j (by omega) (by omega) hij]
  rfl

/-- The text of the same bits behind another network is refused as too long, where it says again what was taken. -/
theorem other_refused (c d : Cf) (f : Fr) (hc : c.Ok) (h : f.Ok c) (hK : f.K = 3) (hS : f.S < c.N) (hN : d.N = c.N) (hne : slotsI d ≠ slotsI c) : readF d (textF f) = (zeroF, 2) ∧ (checkF d f = 2 ∨ slotsI d ≤ f.S) := by
  have hl := frBits_length f
  have ho := frOf_bits c f hc h (f.E.flatMap itBits)
  have hlen := h.len
  have he : echoI c f.K f.S = slotsI c := by unfold echoI; rw [if_pos ⟨hK, hS⟩]
  have he2 : echoI d f.K f.S = slotsI d := by unfold echoI; rw [if_pos ⟨hK, by omega⟩]
  rw [he] at hlen
  refine ⟨?_, ?_⟩
  · unfold readF textF
    rw [open_wrap _ (frBits_all f)]
    rw [if_neg (by simp)]
    show readB d (frBits f) = _
    have : (frOf (frBits f)).K = f.K ∧ (frOf (frBits f)).S = f.S := by
      unfold frBits
      rw [ho]
      exact ⟨rfl, rfl⟩
    unfold readB
    rw [if_neg (by omega), if_pos]
    rw [this.1, this.2, he2]
    omega
  · by_cases hs : slotsI d ≤ f.S
    · exact .inr hs
    · left
      obtain ⟨s0, s1, r0, r1, k1, k3, kp, p, pz, len, all⟩ := h
      refine checkF_l d f ?_ ?_ ?_ ?_
      · simp [badA]; omega
      · simp [badK]; omega
      · unfold badP
        rw [p]
        simp
        omega
      · rw [he2]; omega

/-- One item that may be. -/
def itemOf (n : Int) (carries : Bool) : It := if (if carries && n % 3 == 0 then 2 else n % 3) = 2 then ⟨2, n.tdiv 3 % 256⟩ else ⟨n % 3, 0⟩

theorem itemOf_ok (n : Int) (b : Bool) : itemB (itemOf n b) b = true := by
  have h0 : 0 ≤ n % 3 := by omega
  have h3 : n % 3 < 3 := by omega
  have v0 : 0 ≤ n.tdiv 3 % 256 := Int.emod_nonneg _ (by omega)
  have v1 : n.tdiv 3 % 256 < 256 := Int.emod_lt_of_pos _ (by omega)
  unfold itemOf
  generalize n.tdiv 3 % 256 = v at *
  rcases (by omega : n % 3 = 0 ∨ n % 3 = 1 ∨ n % 3 = 2) with h | h | h <;> cases b <;> simp [h, itemB] <;> omega

/-- Which number makes the i-th item of Echo. -/
def echoN (ns : List Int) (i : Nat) : Int := if 0 < ns.length then (ns.getD (i % ns.length) 0).tdiv (1 + (i : Int)) + i else i

def makeK (c : Cf) (f : Fr) : Int := if c.N ≤ f.S % slotsI c then 3 else 1 + f.K % 3
def makeE (ns : List Int) (k : Nat) : List It := (List.range k).map fun i => itemOf (echoN ns i) false

/-- The frame that the laws make of any one. -/
def makeF (c : Cf) (f : Fr) (ns : List Int) : Fr :=
  if makeK c f = 3 then ⟨3, f.R % 65536, f.S % slotsI c, itemOf f.P.V true, makeE ns (if f.S % slotsI c < c.N then (slotsI c).toNat else 0)⟩
  else ⟨makeK c f, f.R % 65536, f.S % slotsI c, ⟨0, 0⟩, []⟩

theorem makeE_len (ns : List Int) (k : Nat) : (makeE ns k).length = k := by simp [makeE]
theorem makeE_succ (ns : List Int) (k : Nat) : makeE ns (k + 1) = makeE ns k ++ [itemOf (echoN ns k) false] := by simp [makeE, List.range_succ]
theorem makeE_all (ns : List Int) (k : Nat) : ∀ i ∈ makeE ns k, itemB i false = true := by
  intro i hi
  unfold makeE at hi
  rw [List.mem_map] at hi
  obtain ⟨j, _, rfl⟩ := hi
  exact itemOf_ok _ _

theorem makeF_ok (c : Cf) (f : Fr) (ns : List Int) (hc : c.Ok) : (makeF c f ns).Ok c := by
  have h6 := hc.n6
  have hs : 0 < slotsI c := by unfold slotsI; omega
  have s0 : 0 ≤ f.S % slotsI c := Int.emod_nonneg _ (by omega)
  have s1 : f.S % slotsI c < slotsI c := Int.emod_lt_of_pos _ hs
  have r0 : 0 ≤ f.R % 65536 := by omega
  have r1 : f.R % 65536 < 65536 := by omega
  unfold makeF
  by_cases hk : makeK c f = 3
  · rw [if_pos hk]
    refine ⟨s0, s1, r0, r1, by simp, by simp, .inl rfl, itemOf_ok _ _, .inl rfl, ?_, makeE_all _ _⟩
    show ((makeE ns _).length : Int) = echoI c 3 (f.S % slotsI c)
    rw [makeE_len]
    unfold echoI
    by_cases h : f.S % slotsI c < c.N
    · rw [if_pos h, if_pos ⟨rfl, h⟩]; omega
    · rw [if_neg h, if_neg (by simp [h])]; rfl
  · rw [if_neg hk]
    have hk' := hk
    unfold makeK at hk
    have hn : ¬ c.N ≤ f.S % slotsI c := fun e => hk (by rw [if_pos e])
    have e : makeK c f = 1 + f.K % 3 := by unfold makeK; rw [if_neg hn]
    rw [e] at hk' ⊢
    refine ⟨s0, s1, r0, r1, by show 1 ≤ 1 + f.K % 3; omega, by show 1 + f.K % 3 ≤ 3; omega, .inr (by show f.S % slotsI c < c.N; omega), ?_, .inr rfl, ?_, by simp⟩
    · show itemB ⟨0, 0⟩ ((1 + f.K % 3) == 3) = true
      rw [show ((1 + f.K % 3) == 3) = false by simp; omega]
      rfl
    · show ((0 : Nat) : Int) = echoI c (1 + f.K % 3) _
      unfold echoI
      rw [if_neg (by omega)]
      rfl

end Plait
/-
  Contracts of plaitingref3: what the document's own chapter 3 answers of networks.
-/
namespace Go.Proofs.YtkflijbhlibadabDoor
open Go.RowKit Plait
set_option maxRecDepth 100000
set_option linter.unusedVariables false

theorem rslots_any (c : Cf) (a : Option Addr) (cap : Nat) (w : World) (hc : c.Ok) :
    Calls Tryd.prog 17 #[.agg #[.int .i64 c.N, .int .i64 c.Pi, .int .i64 c.E, .int .i64 c.G, .int .i64 c.F, .slice a c.P.length cap]] w fun e w' => e = .returned (.int .i64 (slotsI c)) ∧ Below w.heap.size w w' := by
  have h1 := hc.n6; have h2 := hc.n12; have h3 := hc.len
  go_enter Tryd.func17, Tryd.ntmps17
  go_wp2
  go_ret
  exact ⟨rfl, alloc_below _ _⟩

theorem rwire_any (c : Cf) (a : Option Addr) (cap : Nat) (r : Int) (w : World) (hc : c.Ok) (hr : 0 ≤ r) (hr2 : r ≤ 1099511627776) :
    Calls Tryd.prog 13 #[.agg #[.int .i64 c.N, .int .i64 c.Pi, .int .i64 c.E, .int .i64 c.G, .int .i64 c.F, .slice a c.P.length cap], .int .i64 r] w fun e w' => e = .returned (.int .i64 (wireI c r)) ∧ Below w.heap.size w w' := by
  have h1 := hc.f0; have h2 := hc.f1
  have HF := Lib.hid (show (c.F + r) % 65536 = wireI c r from rfl)
  go_enter Tryd.func13, Tryd.ntmps13
  go_wp2
  go_ret
  exact ⟨ret_int (by rw [← HF.out]), alloc_below _ _⟩

/-- The loop of In. -/
def InAt (zs : List Int) (x : Int) (i : Value) : Prop := ∃ k : Nat, k ≤ zs.length ∧ i = .int .i64 k ∧ inB (zs.take k) x = false

theorem in_step (zs : List Int) (x : Int) (k : Nat) (h : k < zs.length) (ha : inB (zs.take k) x = false) (hn : zs[k] ≠ x) : inB (zs.take (k + 1)) x = false := by
  unfold inB at *
  rw [List.take_succ_eq_append_getElem h, List.contains_eq_any_beq, List.any_append, ← List.contains_eq_any_beq, ha]
  simp
  exact fun e => hn e.symm
theorem in_hit (zs : List Int) (x : Int) (k : Nat) (h : k < zs.length) (hn : zs[k] = x) : inB zs x = true := by
  unfold inB
  rw [List.contains_iff_mem, ← hn]
  exact List.getElem_mem h
theorem in_end (zs : List Int) (x : Int) (k : Nat) (h : ¬ k < zs.length) (ha : inB (zs.take k) x = false) : inB zs x = false := by
  rw [List.take_of_length_le (by omega)] at ha
  exact ha

/-- The loop of Same. -/
def SameAt (xs ys : List Int) (w : World) (i : Value) (w' : World) : Prop := ∃ k : Nat, k ≤ xs.length ∧ i = .int .i64 k ∧ xs.take k = ys.take k ∧ Below w.heap.size w w'

theorem same_step (xs ys : List Int) (k : Nat) (h : k < xs.length) (h2 : k < ys.length) (ha : xs.take k = ys.take k) (e : xs[k] = ys[k]) : xs.take (k + 1) = ys.take (k + 1) := by
  rw [List.take_succ_eq_append_getElem h, List.take_succ_eq_append_getElem h2, ha, e]
theorem same_no (xs ys : List Int) (k : Nat) (h : k < xs.length) (h2 : k < ys.length) (e : xs[k] ≠ ys[k]) : (xs == ys) = false := by
  rw [beq_eq_false_iff_ne]
  rintro rfl
  exact e rfl
theorem same_end (xs ys : List Int) (k : Nat) (h : ¬ k < xs.length) (hl : xs.length = ys.length) (ha : xs.take k = ys.take k) : (xs == ys) = true := by
  rw [List.take_of_length_le (by omega), List.take_of_length_le (by omega)] at ha
  simp [ha]

end Go.Proofs.YtkflijbhlibadabDoor
/-
  The shelf's contracts of Go's own library functions, laid at this program: one application each.
-/
namespace Go.Proofs
open Go.Shelf
def Tryd.laysM316_ren : Go.Shelf.Ren := ⟨fun | 316 => 79 | n => n, fun | 9 => 9 | 3 => 3 | 4 => 4 | 37 => 115 | 0 => 0 | 127 => 117 | 5 => 5 | n => n, fun | n => n⟩
theorem Tryd.laysM316 : Go.Proofs.LaysM.n316 Tryd.prog Tryd.laysM316_ren := {
  mixed := by kernel_rfl
  f316 := Tryd.func79.trans (congrArg some (by kernel_rfl))
  t0 := Tryd.underlying0
  a0 := Tryd.isAgg0
  z0 := Tryd.sizeOf0
  v0 := Tryd.zeroValue0
  t3 := Tryd.underlying3
  a3 := Tryd.isAgg3
  z3 := Tryd.sizeOf3
  v3 := Tryd.zeroValue3
  t4 := Tryd.underlying4
  a4 := Tryd.isAgg4
  z4 := Tryd.sizeOf4
  v4 := Tryd.zeroValue4
  t9 := Tryd.underlying9
  a9 := Tryd.isAgg9
  z9 := Tryd.sizeOf9
  v9 := Tryd.zeroValue9
  t37 := Tryd.underlying115
  a37 := Tryd.isAgg115
  z37 := Tryd.sizeOf115
  v37 := Tryd.zeroValue115
  t127 := Tryd.underlying117
  a127 := Tryd.isAgg117
  z127 := Tryd.sizeOf117
  v127 := Tryd.zeroValue117
  t5 := Tryd.underlying5
  a5 := Tryd.isAgg5
  z5 := Tryd.sizeOf5
  v5 := Tryd.zeroValue5
  i0 := by kernel_rfl
  i3 := by kernel_rfl
  i4 := by kernel_rfl
  i5 := by kernel_rfl
  i9 := by kernel_rfl
  i37 := by kernel_rfl
  i127 := by kernel_rfl }
open Go.RowKit in
theorem Tryd.stringslite_Clone (s : ByteArray) (w : World) (hlim : s.size ≤ 281474976710656) :
    Calls Tryd.prog 79 #[.string s] w fun e w' => e = .returned (.string s) ∧ Below w.heap.size w w' := Any.stringslite_Clone Tryd.laysM316 s w hlim
def Tryd.lays207_ren : Go.Shelf.Ren := ⟨fun | 207 => 82 | n => n, fun | 9 => 9 | 4 => 4 | 3 => 3 | n => n, fun | n => n⟩
theorem Tryd.lays207 : Go.Proofs.Lays.n207 Tryd.prog Tryd.lays207_ren := {
  mixed := by kernel_rfl
  f207 := Tryd.func82.trans (congrArg some (by kernel_rfl))
  t3 := Tryd.underlying3
  a3 := Tryd.isAgg3
  z3 := Tryd.sizeOf3
  v3 := Tryd.zeroValue3
  t4 := Tryd.underlying4
  a4 := Tryd.isAgg4
  z4 := Tryd.sizeOf4
  v4 := Tryd.zeroValue4
  t9 := Tryd.underlying9
  a9 := Tryd.isAgg9
  z9 := Tryd.sizeOf9
  v9 := Tryd.zeroValue9 }
open Go.RowKit Go.Lib in
theorem Tryd.stringslite_HasSuffix (s p : ByteArray) (w : World) (hs : s.size ≤ 9223372036854775807) :
    Calls Tryd.prog 82 #[.string s, .string p] w fun e w' => e = .returned (.bool (Lib.hasSuffix s.data.toList p.data.toList)) ∧ w' = w := Any.stringslite_HasSuffix Tryd.lays207 s p w hs
def Tryd.lays100_ren : Go.Shelf.Ren := ⟨fun | 100 => 75 | 207 => 82 | n => n, fun | 9 => 9 | 4 => 4 | 3 => 3 | n => n, fun | n => n⟩
theorem Tryd.lays100 : Go.Proofs.Lays.n100 Tryd.prog Tryd.lays100_ren := {
  mixed := by kernel_rfl
  f100 := Tryd.func75.trans (congrArg some (by kernel_rfl))
  f207 := Tryd.func82.trans (congrArg some (by kernel_rfl))
  t3 := Tryd.underlying3
  a3 := Tryd.isAgg3
  z3 := Tryd.sizeOf3
  v3 := Tryd.zeroValue3
  t4 := Tryd.underlying4
  a4 := Tryd.isAgg4
  z4 := Tryd.sizeOf4
  v4 := Tryd.zeroValue4
  t9 := Tryd.underlying9
  a9 := Tryd.isAgg9
  z9 := Tryd.sizeOf9
  v9 := Tryd.zeroValue9 }
open Go.RowKit Go.Lib in
theorem Tryd.strings_HasSuffix (s p : ByteArray) (w : World) (hs : s.size ≤ 9223372036854775807) :
    Calls Tryd.prog 75 #[.string s, .string p] w fun e w' => e = .returned (.bool (Lib.hasSuffix s.data.toList p.data.toList)) ∧ w' = w := Any.strings_HasSuffix Tryd.lays100 s p w hs
end Go.Proofs
/-
  Contracts of package sym's inner functions: what each call answers, for every input; nothing that was in memory is changed.
-/
namespace Go.Proofs.YtkflijbhlibadabDoor
open Go.RowKit Plait
set_option maxRecDepth 100000
set_option linter.unusedVariables false

set_option maxHeartbeats 400000 in
theorem isBit_any (r : Int) (w : World) :
    Calls Tryd.prog 83 #[.int .i32 r] w fun e w' => e = .returned (.bool (r == 48 || r == 49)) ∧ w = w' := by
  by_cases h : r = 48
  · subst h
    go_enter Tryd.func83, Tryd.ntmps83
    go_wp2
    go_ret
    exact ⟨rfl, rfl⟩
  · have hb : (r == 48) = false := by simp [h]
    go_enter Tryd.func83, Tryd.ntmps83
    go_wp2
    go_ret
    exact ⟨by simp [hb], rfl⟩

/-- The loop over a text: where it stands, and that all bytes ahead of it are bits. -/
def RangeAt (l : List UInt8) (w : World) (w' : World) : Prop :=
  ∃ pos : Nat, pos ≤ l.length ∧ w' = w.iter ⟨l.toArray⟩ pos ∧ ∀ c ∈ l.take pos, bitB c = true

theorem below_iter (w : World) (s : ByteArray) (p : Nat) : Below w.heap.size w (w.iter s p) := (Below.refl _ w).alloc (Nat.le_refl _) _

theorem size_mk (l : List UInt8) : (⟨l.toArray⟩ : ByteArray).size = l.length := by simp [ByteArray.size]
@[go_sem] theorem get_mk (l : List UInt8) (k : Nat) (h : k < (⟨l.toArray⟩ : ByteArray).size) : (⟨l.toArray⟩ : ByteArray)[k]'h = l[k]'(by rw [size_mk] at h; exact h) := by
  simp [ByteArray.getElem_eq_getElem_data]
@[go_sem] theorem extract_from (l : List UInt8) (a b : Nat) : (⟨l.toArray⟩ : ByteArray).extract a b = ⟨((l.drop a).take (b - a)).toArray⟩ := ByteArray.extract_mk l a b

theorem bit_toNat (c : UInt8) : bitB c = true ↔ c.toNat = 48 ∨ c.toNat = 49 := by
  simp [bitB, ← UInt8.toNat_inj]

/-- A step of the loop over a text where a byte below 128 stands. -/
theorem next_ascii (l : List UInt8) (w : World) (pos : Nat) (hlt : pos < l.length) (ha : l[pos].toNat < 128) : ∀ ty, (Instr.next (.pointer (some ⟨w.heap.size, 0, none⟩)) true ty).run Tryd.prog (w.iter ⟨l.toArray⟩ pos) = .ok (.tuple #[.bool true, .int .i64 pos, .int .i32 (l[pos]).toNat]) (w.iter ⟨l.toArray⟩ (pos + 1)) := fun ty => by
  have hlt' : pos < (⟨l.toArray⟩ : ByteArray).size := by rw [size_mk]; exact hlt
  rw [run_next_ascii w _ pos ty hlt' (by rw [get_mk l pos hlt']; exact ha), get_mk l pos hlt']

/-- A step of the loop over a text where no such byte stands: the rune is none of those below 128. -/
theorem next_high (l : List UInt8) (w : World) (pos : Nat) (hlt : pos < l.length) (ha : ¬ l[pos].toNat < 128) : ∃ (r wd : Nat), 128 ≤ r ∧ r ≤ 2147483647 ∧ ∀ ty, (Instr.next (.pointer (some ⟨w.heap.size, 0, none⟩)) true ty).run Tryd.prog (w.iter ⟨l.toArray⟩ pos) = .ok (.tuple #[.bool true, .int .i64 pos, .int .i32 r]) (w.iter ⟨l.toArray⟩ (pos + wd)) := by
  have hlt' : pos < (⟨l.toArray⟩ : ByteArray).size := by rw [size_mk]; exact hlt
  have hd := decode_high ⟨l.toArray⟩ pos hlt' (by rw [get_mk l pos hlt']; omega)
  exact ⟨_, _, hd.1, decode_le _ _, fun ty => run_next_any w _ pos ty hlt'⟩

theorem next_end (l : List UInt8) (w : World) (pos : Nat) (hlt : ¬ pos < l.length) : ∀ ty, (Instr.next (.pointer (some ⟨w.heap.size, 0, none⟩)) true ty).run Tryd.prog (w.iter ⟨l.toArray⟩ pos) = .ok (.tuple #[.bool false]) (w.iter ⟨l.toArray⟩ pos) := fun ty =>
  run_next_end w _ pos ty (by rw [size_mk]; exact hlt)

set_option maxHeartbeats 400000 in
theorem streamLen_any (l : List UInt8) (w : World) (hs : l.length < 9223372036854775807) :
    Calls Tryd.prog 76 #[.string ⟨l.toArray⟩] w fun e w' => e = .returned (.int .i64 (slen l)) ∧ Below w.heap.size w w' := by
  go_enter Tryd.func76, Tryd.ntmps76
  go_wp2
  go_loopw [] (fun w' => RangeAt l w w') (fun w' => l.length - w'.iterPos w.heap.size)
  case atStart => exact ⟨0, Nat.zero_le _, rfl, by simp⟩
  case round =>
    obtain ⟨pos, hp, rfl, hb⟩ := hrel
    have HB := Lib.hid hb
    clear hb
    by_cases hlt : pos < l.length
    · by_cases ha : (l[pos]).toNat < 128
      · have hnx := next_ascii l w pos hlt ha
        by_cases h35 : l[pos].toNat = 35
        · have h1 : (((l[pos].toNat : Nat) : Int) == 35) = true := by simp [h35]
          have HF := Lib.hid (slen_at_tail l pos hlt HB.out (UInt8.toNat_inj.1 h35))
          clear h35
          go_wp2
          go_ret
          exact ⟨ret_int (by rw [HF.out]; simp), below_iter _ _ _⟩
        · have h1 : (((l[pos].toNat : Nat) : Int) == 35) = false := by simp; omega
          by_cases hbit : bitB l[pos] = true
          · have hbit' := (bit_toNat _).1 hbit
            have h2 : ((((l[pos].toNat : Nat) : Int) == 48) || (((l[pos].toNat : Nat) : Int) == 49)) = true := by simp; omega
            have HN := Lib.hid (bits_snoc l pos hlt HB.out hbit)
            clear h35 hbit hbit'
            go_wp2_with (go_at_call 83; refine (isBit_any _ _).mono ?_; rintro e w' ⟨rfl, rfl⟩; rw [h2])
            go_roundw
            case rel => exact ⟨pos + 1, by omega, rfl, HN.out⟩
            case measure => simp; omega
          · have h2 : ((((l[pos].toNat : Nat) : Int) == 48) || (((l[pos].toNat : Nat) : Int) == 49)) = false := by
              rw [bit_toNat] at hbit
              simp; omega
            have HF := Lib.hid (slen_at_other l pos hlt HB.out (fun e => h35 (by rw [e]; rfl)) (by simpa using hbit))
            clear h35 hbit
            go_wp2_with (go_at_call 83; refine (isBit_any _ _).mono ?_; rintro e w' ⟨rfl, rfl⟩; rw [h2])
            go_ret
            exact ⟨ret_int (by rw [HF.out]), below_iter _ _ _⟩
      · obtain ⟨r, wd, hr, hr2, hnx⟩ := next_high l w pos hlt ha
        have h1 : ((r : Int) == 35) = false := by simp; omega
        have h2 : (((r : Int) == 48) || ((r : Int) == 49)) = false := by simp; omega
        have HF := Lib.hid (slen_at_other l pos hlt HB.out (fun e => ha (by rw [e]; decide)) (by rw [Bool.eq_false_iff]; intro e; rw [bit_toNat] at e; omega))
        clear ha
        go_wp2_with (go_at_call 83; refine (isBit_any _ _).mono ?_; rintro e w' ⟨rfl, rfl⟩; rw [h2])
        go_ret
        exact ⟨ret_int (by rw [HF.out]), below_iter _ _ _⟩
    · have hnx := next_end l w pos hlt
      have HF := Lib.hid (slen_at_end l (by rw [show l.length = pos by omega]; exact HB.out))
      go_wp2
      go_ret
      exact ⟨ret_int (by rw [HF.out]), below_iter _ _ _⟩

end Go.Proofs.YtkflijbhlibadabDoor
/-
  Contracts of package sym: Clean, Common, Front, Whole, Turn: what each call answers, for every text; nothing that was in memory is changed.
-/
namespace Go.Proofs.YtkflijbhlibadabDoor
open Go.RowKit Plait
set_option maxRecDepth 100000
set_option linter.unusedVariables false

theorem clone_any (s : ByteArray) (w : World) (hs : s.size ≤ 1099511627776) :
    Calls Tryd.prog 60 #[.string s] w fun e w' => e = .returned (.string s) ∧ Below w.heap.size w w' := by
  go_enter Tryd.func60, Tryd.ntmps60
  go_wp2_with fail
  refine (Tryd.stringslite_Clone s w (by omega)).mono ?_
  rintro e w' ⟨rfl, hb⟩
  go_wp2
  go_ret
  exact ⟨rfl, hb⟩

theorem ret_str {a b : List UInt8} (h : a = b) : Ending.returned (.string ⟨a.toArray⟩) = .returned (.string ⟨b.toArray⟩) := by rw [h]
/-- The loop of Common: all bytes ahead are the same. -/
def ComAt (l m : List UInt8) (n : Value) : Prop :=
  ∃ k : Nat, k ≤ l.length ∧ k ≤ m.length ∧ l.take k = m.take k ∧ n = .int .i64 k

theorem suffix_tail (l : List UInt8) : Lib.hasSuffix l [35] = (l.getLast? == some 35) := by
  unfold Lib.hasSuffix
  rcases List.eq_nil_or_concat l with rfl | ⟨m, c, rfl⟩
  · rfl
  · simp [List.isSuffixOf, List.isPrefixOf]
    exact BEq.comm

theorem whole_any (l : List UInt8) (w : World) (hs : l.length ≤ 1099511627776) :
    Calls Tryd.prog 58 #[.string ⟨l.toArray⟩] w fun e w' => e = .returned (.bool (wholeB l)) ∧ Below w.heap.size w w' := by
  by_cases h : Lib.hasSuffix l [35] = true
  · go_enter Tryd.func58, Tryd.ntmps58
    go_wp2_with fail
    refine (Tryd.strings_HasSuffix _ _ _ (by rw [size_mk]; omega)).mono ?_
    rintro e w2 ⟨rfl, rfl⟩
    go_wp2_with fail
    refine (streamLen_any l _ (by omega)).mono ?_
    rintro e w3 ⟨rfl, hb⟩
    go_wp2
    go_ret
    exact ⟨ret_bool (by rw [suffix_tail] at h; rw [wholeB, h, Bool.true_and, Bool.eq_iff_iff, beq_iff_eq, beq_iff_eq]; omega), hb⟩
  · rw [Bool.not_eq_true] at h
    go_enter Tryd.func58, Tryd.ntmps58
    go_wp2_with fail
    refine (Tryd.strings_HasSuffix _ _ _ (by rw [size_mk]; omega)).mono ?_
    rintro e w2 ⟨rfl, rfl⟩
    go_wp2
    go_ret
    exact ⟨ret_bool (by rw [suffix_tail] at h; rw [wholeB, h]; rfl), Below.refl _ _⟩

end Go.Proofs.YtkflijbhlibadabDoor
/-
  Contract of sym.Turn: for every text and place; nothing that was in memory is changed.
-/
namespace Go.Proofs.YtkflijbhlibadabDoor
open Go.RowKit Plait
set_option maxRecDepth 100000
set_option linter.unusedVariables false

theorem turn_out (l : List UInt8) (i : Int) (h : i < 0 ∨ (l.length : Int) ≤ i) : turn l i = l := by
  unfold turn
  rw [if_neg (by omega)]

theorem turn_in (l : List UInt8) (k : Nat) (h : k < l.length) : turn l (k : Int) = l.set k (other l[k]) := by
  unfold turn
  rw [if_pos (by omega)]
  simp [h]

theorem addr_add (b o j : Nat) : (⟨b, o, none⟩ : Addr).add j = ⟨b, o + j, none⟩ := by
  unfold Addr.add
  by_cases hj : j = 0 <;> simp [hj]

/-- A row of bytes, made out of a text: what was in memory stays. -/
theorem bytes_row (l : List UInt8) (w : World) : ∃ (C : Array Value) (cap : Nat), l.length ≤ C.size ∧ (∀ k (hk : k < l.length), C[k]? = some (.int .u8 (l[k].toNat : Int))) ∧
    (convert 9 115 (.string ⟨l.toArray⟩)).run Tryd.prog w = .ok (.slice (some ⟨w.heap.size, 0, none⟩) l.length cap) (w.drew.alloc (.cells C 5 (C.size, C.size + 1))) := by
  have h := run_bytes_of_string (P := Tryd.prog) w 9 115 5 ⟨l.toArray⟩ Tryd.underlying9 Tryd.underlying115 Tryd.underlying5
  rw [size_mk] at h
  refine ⟨_, _, ?_, ?_, h⟩
  · simp [bytesRow]
  · intro k hk
    have := bytesRow_at ⟨l.toArray⟩ (grownCap w l.length 0 5) k (by simpa using hk)
    rw [this]
    simp

end Go.Proofs.YtkflijbhlibadabDoor
/-
  Contracts of sym.Bits and sym.Num: for every number, size and text; nothing that was in memory is changed.
-/
namespace Go.Proofs.YtkflijbhlibadabDoor
open Go.RowKit Plait
set_option maxRecDepth 100000
set_option linter.unusedVariables false

theorem wrap_small (n : Int) (h0 : 0 ≤ n) (h1 : n < 9223372036854775808) : IntKind.i64.wrap n = n := by
  rw [IntKind.wrap_i64]; omega

/-- The lowest bits of any number. -/
theorem and_mask (x : Int) (k : Nat) (hk : k ≤ 62) : bits .and .i64 x ((2 : Int) ^ k - 1) = x % 2 ^ k := by
  have hp : (2 : Nat) ^ k ≤ 2 ^ 62 := Nat.pow_le_pow_right (by decide) hk
  have hp0 : 0 < (2 : Nat) ^ k := Nat.pow_pos (by decide)
  have e1 : ((2 : Int) ^ k - 1) = ((2 ^ k - 1 : Nat) : Int) := by
    rw [Int.natCast_sub hp0]; simp
  have e2 : ((2 : Int) ^ k) = ((2 ^ k : Nat) : Int) := by simp
  have hb : (BitVec.ofInt 64 ((2 ^ k - 1 : Nat) : Int)).toNat = 2 ^ k - 1 := by
    rw [BitVec.toNat_ofInt]
    have : (2 : Nat) ^ 62 = 4611686018427387904 := by decide
    simp only [Nat.reducePow]
    omega
  have ha : ((BitVec.ofInt 64 x).toNat : Int) = x % 18446744073709551616 := by
    rw [BitVec.toNat_ofInt]
    simp only [Nat.reducePow]
    omega
  have hdef : bits .and .i64 x ((2 : Int) ^ k - 1) = IntKind.i64.wrap ((BitVec.ofInt 64 x &&& BitVec.ofInt 64 ((2 : Int) ^ k - 1)).toNat : Int) := rfl
  rw [hdef, e1, BitVec.toNat_and, hb, Nat.and_two_pow_sub_one_eq_mod]
  have hlt : (BitVec.ofInt 64 x).toNat % 2 ^ k < 2 ^ k := Nat.mod_lt _ hp0
  have h62 : (2 : Nat) ^ 62 = 4611686018427387904 := by decide
  rw [wrap_small _ (by omega) (by omega), Int.natCast_emod, ha, e2]
  have hd : ((2 ^ k : Nat) : Int) ∣ 18446744073709551616 := by
    have : (2 : Nat) ^ k ∣ 2 ^ 64 := Nat.pow_dvd_pow 2 (by omega)
    exact Int.natCast_dvd_natCast.2 this
  exact Int.emod_emod_of_dvd x hd

theorem and_one (x : Int) : bits .and .i64 x 1 = x % 2 := by
  have := and_mask x 1 (by decide)
  simpa using this

/-- A made row of bytes. -/
theorem make_bytes (n : Nat) (hn : n ≤ 1048576) : ∃ M : Array Value, M.size = n ∧ (∀ k, k < n → ∃ v, M[k]? = some v) ∧ ∀ W : World, (Instr.makeSlice 115 (.int .i64 (n : Int)) (.int .i64 (n : Int))).run Tryd.prog W = .ok (.slice (some ⟨W.heap.size, 0, none⟩) n n) (W.alloc (.cells M 5)) := by
  obtain ⟨i0, hi, hz0, hz1, hz2⟩ := info_parts (show (Tryd.prog.info? 5).map (fun i => (i.zero, i.size, i.bytes)) = some (some (.int .u8 0), 1, 1) by kernel_rfl)
  refine ⟨madeCells (Value.int .u8 0).cells (((n : Nat) : Int).toNat * i0.size), by rw [size_madeCells, hz1]; simp, fun k hk => ?_, fun W => ?_⟩
  · have hs : (madeCells (Value.int .u8 0).cells (((n : Nat) : Int).toNat * i0.size)).size = n := by rw [size_madeCells, hz1]; simp
    exact ⟨_, Array.getElem?_eq_getElem (by rw [hs]; exact hk)⟩
  · have h := run_make (P := Tryd.prog) W 115 5 i0 (.int .u8 0) Tryd.underlying115 hi hz0 .i64 .i64 (n : Int) (n : Int) (by omega) (by omega) (by rw [hz2]; omega) (by omega)
    simpa using h

end Go.Proofs.YtkflijbhlibadabDoor
/-
  Contracts of sym.Bits and sym.Num: for every number, size and text; nothing that was in memory is changed.
-/
namespace Go.Proofs.YtkflijbhlibadabDoor
open Go.RowKit Plait
set_option maxRecDepth 100000
set_option linter.unusedVariables false

/-- The loop of Bits: the row's first k places hold the first k bits. -/
def BitsAt (n : Int) (size : Nat) (w : World) (i : Value) (w' : World) : Prop :=
  ∃ (k : Nat) (A : Array Value), k ≤ size ∧ i = .int .i64 k ∧ w' = w.alloc (.cells A 5) ∧ A.size = size ∧ ∀ j, j < k → A[j]? = some (.int .u8 ((bitAt n size j).toNat : Int))

set_option maxHeartbeats 800000 in
theorem bits_in (n : Int) (size : Nat) (w : World) (h1 : 1 ≤ size) (h2 : size ≤ 62) :
    Calls Tryd.prog 77 #[.int .i64 n, .int .i64 size] w fun e w' => e = .returned (.string ⟨(bitsL n size).toArray⟩) ∧ Below w.heap.size w w' := by
  obtain ⟨M, hM, hM0, hmk⟩ := make_bytes size (by omega)
  have HM := Lib.hid hM
  clear hM hM0
  have d1 : decide ((size : Int) < 1) = false := by simp; omega
  have d2 : decide ((62 : Int) < (size : Int)) = false := by simp; omega
  go_enter Tryd.func77, Tryd.ntmps77
  go_wp2
  go_loopw [17] (fun i w' => BitsAt n size w i w') (fun i _ => size - (intOf i).toNat)
  case atStart => exact ⟨0, M, Nat.zero_le _, rfl, rfl, HM.out, fun j hj => absurd hj (by omega)⟩
  case round =>
    obtain ⟨k, A, hk, rfl, rfl, hA, hAj⟩ := hrel
    by_cases hlt : k < size
    · obtain ⟨v0, hc⟩ : ∃ v, (w.alloc (.cells A 5)).cell? ⟨w.heap.size, k, none⟩ = some v := ⟨A[k]'(by omega), by rw [World.cell?_alloc_mark]; exact Array.getElem?_eq_getElem (by omega)⟩
      have HA := Lib.hid hA
      have HAj := Lib.hid hAj
      clear hA hAj
      go_wp2
      go_roundw
      case rel =>
        refine ⟨k + 1, _, by omega, by go_num, rfl, by simpa using HA.out, fun j hj => ?_⟩
        rw [Array.getElem?_setIfInBounds]
        by_cases hjk : k = j
        · subst hjk
          have hs := HA.out
          rw [if_pos rfl, if_pos (by omega), and_one, bitAt_toNat]
          congr 2
          omega
        · rw [if_neg hjk]
          exact HAj.out j (by omega)
      case measure => simp [intOf]; omega
    · have hback : (convert 115 9 (.slice (some ⟨w.heap.size, 0, none⟩) size size)).run Tryd.prog (w.alloc (.cells A 5)) = .ok (.string ⟨(bitsL n size).toArray⟩) (w.alloc (.cells A 5)) := by
        have h := run_convert_bytes_back (P := Tryd.prog) (w.alloc (.cells A 5)) 115 9 5 ⟨w.heap.size, 0, none⟩ size (bitsL n size) Tryd.underlying115 Tryd.underlying5 Tryd.underlying9 (fun j hj => by
          rw [addr_add, Nat.zero_add, World.cell?_alloc_mark, bitsL_get]
          exact hAj j (by rw [bitsL_length] at hj; omega))
        rw [bitsL_length] at h
        exact h
      clear hA hAj
      go_wp2
      go_ret
      exact ⟨rfl, (Below.refl _ w).alloc (Nat.le_refl _) _⟩

theorem bits_any (n size : Int) (w : World) :
    Calls Tryd.prog 77 #[.int .i64 n, .int .i64 size] w fun e w' => e = .returned (.string ⟨(bitsI n size).toArray⟩) ∧ Below w.heap.size w w' := by
  by_cases h1 : size < 1
  · have HF := Lib.hid (show bitsI n size = [] by unfold bitsI; rw [if_neg (by omega)])
    go_enter Tryd.func77, Tryd.ntmps77
    go_wp2
    go_ret
    exact ⟨ret_str HF.out.symm, Below.refl _ _⟩
  by_cases h2 : 62 < size
  · have HF := Lib.hid (show bitsI n size = [] by unfold bitsI; rw [if_neg (by omega)])
    go_enter Tryd.func77, Tryd.ntmps77
    go_wp2
    go_ret
    exact ⟨ret_str HF.out.symm, Below.refl _ _⟩
  obtain ⟨k, rfl⟩ := Int.eq_ofNat_of_zero_le (by omega : 0 ≤ size)
  have HF := Lib.hid (show bitsI n k = bitsL n k by unfold bitsI; rw [if_pos (by omega)]; rfl)
  refine (bits_in n k w (by omega) (by omega)).mono ?_
  rintro e w' ⟨rfl, hb⟩
  exact ⟨ret_str HF.out.symm, hb⟩

end Go.Proofs.YtkflijbhlibadabDoor
/-
  Contract of sym.Num: for every text; nothing that was in memory is changed.
-/
namespace Go.Proofs.YtkflijbhlibadabDoor
open Go.RowKit Plait
set_option maxRecDepth 100000
set_option linter.unusedVariables false

/-- The loop of Num: where it stands, that all bytes ahead of it are bits, and what they mean. -/
def NumAt (l : List UInt8) (w : World) (n : Value) (w' : World) : Prop :=
  ∃ pos : Nat, pos ≤ l.length ∧ w' = w.iter ⟨l.toArray⟩ pos ∧ (∀ c ∈ l.take pos, bitB c = true) ∧ n = .int .i64 (numV (l.take pos))

/-- What Num answers. -/
def numR (l : List UInt8) : Value := if numOk l then .tuple #[.int .i64 (numV l), .bool true] else .tuple #[.int .i64 0, .bool false]

theorem numR_yes (l : List UInt8) (h1 : 1 ≤ l.length) (h2 : l.length ≤ 62) (hb : ∀ c ∈ l, bitB c = true) : numR l = .tuple #[.int .i64 (numV l), .bool true] := by
  have : numOk l = true := by simp [numOk, h1, h2]; exact hb
  rw [numR, if_pos this]

theorem numR_no (l : List UInt8) (h : numOk l = false) : numR l = .tuple #[.int .i64 0, .bool false] := by
  rw [numR, h]; rfl

theorem numOk_no (l : List UInt8) (k : Nat) (hk : k < l.length) (h : bitB l[k] = false) : numOk l = false := by
  rw [numOk, Bool.and_eq_false_iff]
  right
  rw [List.all_eq_false]
  exact ⟨l[k], List.getElem_mem hk, by rw [h]; decide⟩

theorem or_bit (N : Nat) (c : UInt8) (hN : N < 2305843009213693952) (hc : c.toNat = 48 ∨ c.toNat = 49) :
    bits .or .i64 ((N : Int) * 2) (wrap64 (wrap32 ((c.toNat : Int) - 48))) = ((2 * N + if c = 49 then 1 else 0 : Nat) : Int) := by
  have h2 : (2 : Int) ^ 63 = 9223372036854775808 := by decide
  have hb : ∀ y : Int, 0 ≤ y → y < 2 → bits .or .i64 ((N : Int) * 2) y = (N : Int) * 2 + y := fun y h0 h1 =>
    bits_join .i64 63 (by decide) (fun n h0 h1 => wrap_small n h0 (by rw [h2] at h1; exact h1)) 1 ((N : Int) * 2) y (by omega) (by omega) (by rw [h2]; omega) h0 (by omega) (by rw [h2]; omega)
  rcases hc with hc | hc
  · have : ¬ c = 49 := fun e => by rw [e] at hc; exact absurd hc (by decide)
    rw [hc, if_neg this, show wrap64 (wrap32 (((48 : Nat) : Int) - 48)) = 0 by simp [wrap64, wrap32], hb 0 (by decide) (by decide)]
    omega
  · have : c = 49 := UInt8.toNat_inj.1 hc
    rw [hc, if_pos this, show wrap64 (wrap32 (((49 : Nat) : Int) - 48)) = 1 by simp [wrap64, wrap32], hb 1 (by decide) (by decide)]
    omega

theorem numV_take (l : List UInt8) (k : Nat) (hk : k < l.length) : numV (l.take (k + 1)) = 2 * numV (l.take k) + if l[k] = 49 then 1 else 0 := by
  rw [List.take_succ_eq_append_getElem hk, numV_snoc]

end Go.Proofs.YtkflijbhlibadabDoor
/-
  Contracts of the reference's symbols: the same answers as package sym's, for every input; nothing that was in memory is changed.
-/
namespace Go.Proofs.YtkflijbhlibadabDoor
open Go.RowKit Plait
set_option maxRecDepth 100000
set_option linter.unusedVariables false

@[go_sem] theorem app_mk (x y : List UInt8) : (⟨x.toArray⟩ ++ ⟨y.toArray⟩ : ByteArray) = ⟨(x ++ y).toArray⟩ := ByteArray.mk_append_mk x y

theorem byte_ne (c : UInt8) (n : Nat) (hn : n < 256) (h : c ≠ UInt8.ofNat n) : ((c.toNat : Int) == (n : Int)) = false := by
  rw [beq_eq_false_iff_ne]
  intro e
  apply h
  apply UInt8.toNat_inj.1
  simp [UInt8.toNat_ofNat', Nat.mod_eq_of_lt hn]
  omega

theorem rsymbol_any (c : UInt8) (w : World) :
    Calls Tryd.prog 85 #[.int .u8 c.toNat] w fun e w' => e = .returned (.bool (bitB c || c == 35)) ∧ w = w' := by
  by_cases h1 : c = 48
  · subst h1
    go_enter Tryd.func85, Tryd.ntmps85
    go_wp2
    go_ret
    exact ⟨rfl, rfl⟩
  by_cases h2 : c = 49
  · subst h2
    go_enter Tryd.func85, Tryd.ntmps85
    go_wp2
    go_ret
    exact ⟨rfl, rfl⟩
  by_cases h3 : c = 35
  · subst h3
    go_enter Tryd.func85, Tryd.ntmps85
    go_wp2
    go_ret
    exact ⟨rfl, rfl⟩
  have d1 : ((c.toNat : Int) == 48) = false := byte_ne c 48 (by decide) h1
  have d2 : ((c.toNat : Int) == 49) = false := byte_ne c 49 (by decide) h2
  have d3 : ((c.toNat : Int) == 35) = false := byte_ne c 35 (by decide) h3
  have HF := Lib.hid (show (bitB c || c == 35) = false by simp [bitB, h1, h2, h3])
  clear h1 h2 h3
  go_enter Tryd.func85, Tryd.ntmps85
  go_wp2
  go_ret
  exact ⟨ret_bool HF.out.symm, rfl⟩

/-- The reference's loop: where it stands, and that all bytes ahead of it are bits. -/
def RCleanAt (l : List UInt8) (i : Value) : Prop := ∃ k : Nat, k ≤ l.length ∧ i = .int .i64 k ∧ ∀ c ∈ l.take k, bitB c = true

set_option maxHeartbeats 400000 in
theorem rclean_any (l : List UInt8) (w : World) (hs : l.length ≤ 1099511627776) :
    Calls Tryd.prog 81 #[.string ⟨l.toArray⟩] w fun e w' => e = .returned (.string ⟨(clean l).toArray⟩) ∧ w = w' := by
  go_enter Tryd.func81, Tryd.ntmps81
  go_wp2
  go_loop [3] (fun i => RCleanAt l i) (fun i => l.length - (intOf i).toNat)
  case atStart => exact ⟨0, Nat.zero_le _, rfl, by simp⟩
  case round =>
    obtain ⟨k, hk, rfl, hb⟩ := hrel
    have HB := Lib.hid hb
    clear hb
    by_cases hlt : k < l.length
    · by_cases h35 : l[k] = 35
      · have d1 : ((l[k].toNat : Int) == 35) = true := by simp [h35]
        have d2 : (bitB l[k] || l[k] == 35) = true := by simp [h35]
        have HF := Lib.hid (slen_at_tail l k hlt HB.out h35)
        clear h35
        go_wp2_with (go_at_call 85; refine (rsymbol_any _ _).mono ?_; rintro e w' ⟨rfl, rfl⟩; rw [d2])
        go_ret
        exact ⟨ret_str (by rw [clean, HF.out]), rfl⟩
      · have d1 : ((l[k].toNat : Int) == 35) = false := byte_ne _ 35 (by decide) h35
        by_cases hbit : bitB l[k] = true
        · have d2 : (bitB l[k] || l[k] == 35) = true := by simp [hbit]
          have HN := Lib.hid (bits_snoc l k hlt HB.out hbit)
          clear h35 hbit
          go_wp2_with (go_at_call 85; refine (rsymbol_any _ _).mono ?_; rintro e w' ⟨rfl, rfl⟩; rw [d2])
          go_round
          case rel => exact ⟨k + 1, by omega, by go_num, HN.out⟩
          case measure => simp [intOf]; omega
        · have d2 : (bitB l[k] || l[k] == 35) = false := by simp [hbit, h35]
          have HF := Lib.hid (slen_at_other l k hlt HB.out h35 (by simpa using hbit))
          clear h35 hbit
          go_wp2_with (go_at_call 85; refine (rsymbol_any _ _).mono ?_; rintro e w' ⟨rfl, rfl⟩; rw [d2])
          go_ret
          exact ⟨ret_str (by rw [clean, HF.out]), rfl⟩
    · have HF := Lib.hid (slen_at_end l (by rw [show l.length = k by omega]; exact HB.out))
      go_wp2
      go_ret
      exact ⟨ret_str (by rw [clean, HF.out, List.take_length]), rfl⟩

end Go.Proofs.YtkflijbhlibadabDoor
/-
  Contracts of the reference's symbols, the rest: Front, Whole, Turn, Bits, Num.
-/
namespace Go.Proofs.YtkflijbhlibadabDoor
open Go.RowKit Plait
set_option maxRecDepth 100000
set_option linter.unusedVariables false

theorem byte_eq (c : UInt8) (n : Nat) (h : n < 256) : ((c.toNat : Int) == (n : Int)) = (c == UInt8.ofNat n) := by
  rw [Bool.eq_iff_iff, beq_iff_eq, beq_iff_eq]
  constructor
  · intro e
    apply UInt8.toNat_inj.1
    simp [UInt8.toNat_ofNat', Nat.mod_eq_of_lt h]
    omega
  · rintro rfl
    simp [UInt8.toNat_ofNat', Nat.mod_eq_of_lt h]

theorem front_take (l m : List UInt8) (h : l.length ≤ m.length) : frontB l m = (m.take l.length == l) := by
  unfold frontB
  rw [Bool.eq_iff_iff, List.isPrefixOf_iff_prefix, beq_iff_eq, List.prefix_iff_eq_take]
  exact eq_comm

theorem front_long (l m : List UInt8) (h : m.length < l.length) : frontB l m = false := by
  unfold frontB
  rw [Bool.eq_false_iff]
  intro e
  have := (List.isPrefixOf_iff_prefix.1 e).length_le
  omega

theorem clean_eq (l : List UInt8) : (clean l == l) = (slen l == l.length) := by
  have h := slen_le l
  rw [Bool.eq_iff_iff, beq_iff_eq, beq_iff_eq, clean]
  constructor
  · intro e
    have := congrArg List.length e
    rw [List.length_take] at this
    omega
  · intro e
    rw [e, List.take_length]

theorem last_get (l : List UInt8) (h : 0 < l.length) : l.getLast? = some (l[l.length - 1]) := by
  rw [List.getLast?_eq_getElem?, List.getElem?_eq_getElem]

theorem whole_last (l : List UInt8) (hpos : 0 < l.length) (h1 : slen l = l.length) : wholeB l = (l[l.length - 1]'(Nat.sub_lt hpos (by decide)) == 35) := by
  rw [wholeB, last_get l hpos, h1]; simp

theorem rwhole_any (l : List UInt8) (w : World) (hs : l.length ≤ 1099511627776) :
    Calls Tryd.prog 72 #[.string ⟨l.toArray⟩] w fun e w' => e = .returned (.bool (wholeB l)) ∧ w = w' := by
  by_cases h0 : l = []
  · subst h0
    go_enter Tryd.func72, Tryd.ntmps72
    go_wp2
    go_ret
    exact ⟨rfl, rfl⟩
  have hpos : 0 < l.length := List.length_pos_iff.2 h0
  have d0 : l.isEmpty = false := by simpa using h0
  by_cases h1 : slen l = l.length
  · have d1 : (clean l == l) = true := by rw [clean_eq]; simpa using h1
    have HF := Lib.hid (whole_last l hpos h1)
    clear h1
    go_enter Tryd.func72, Tryd.ntmps72
    go_wp2_with fail
    refine (rclean_any l _ hs).mono ?_
    rintro e w' ⟨rfl, rfl⟩
    go_wp2
    go_ret
    exact ⟨ret_bool (by rw [HF.out]; exact (byte_eq _ 35 (by decide))), rfl⟩
  · have d1 : (clean l == l) = false := by rw [clean_eq]; simpa using h1
    have HF := Lib.hid (show wholeB l = false by rw [wholeB]; simp [h1])
    clear h1
    go_enter Tryd.func72, Tryd.ntmps72
    go_wp2_with fail
    refine (rclean_any l _ hs).mono ?_
    rintro e w' ⟨rfl, rfl⟩
    go_wp2
    go_ret
    exact ⟨ret_bool HF.out.symm, rfl⟩

theorem rturn_in (l : List UInt8) (k : Nat) (h : k < l.length) : l.take k ++ [other l[k]] ++ l.drop (k + 1) = l.set k (other l[k]) := by
  rw [List.set_eq_take_append_cons_drop, if_pos h]
  simp

theorem drop_take_one (l : List UInt8) (k : Nat) (h : k < l.length) : (l.drop k).take 1 = [l[k]] := by
  rw [List.drop_eq_getElem_cons h]; rfl

theorem rturn_fin (l : List UInt8) (k : Nat) (d c : UInt8) (h : other c = d) : l.take k ++ d :: (l.drop (k + 1)).take (l.length - (k + 1)) = l.take k ++ [other c] ++ l.drop (k + 1) := by
  have e : (l.drop (k + 1)).take (l.length - (k + 1)) = l.drop (k + 1) := List.take_of_length_le (by rw [List.length_drop]; exact Nat.le_refl _)
  rw [e, h]; simp

set_option maxHeartbeats 800000 in
theorem rturn_core (l : List UInt8) (k : Nat) (c : UInt8) (w : World) (hs : l.length ≤ 1099511627776) (hk : k < l.length) (hd : (l.drop k).take 1 = [c]) :
    Calls Tryd.prog 15 #[.string ⟨l.toArray⟩, .int .i64 k] w fun e w' => e = .returned (.string ⟨(l.take k ++ [other c] ++ l.drop (k + 1)).toArray⟩) ∧ Below w.heap.size w w' := by
  have e1 : decide ((k : Int) < 0) = false := by simp
  have e2 : decide (l.length ≤ k) = false := by simp; omega
  by_cases h1 : c = 48
  · subst h1
    go_enter Tryd.func15, Tryd.ntmps15
    go_wp2
    go_quiet (fail)
    go_wp2
    go_ret
    exact ⟨ret_str (rturn_fin l k _ _ rfl), below_drewN (Below.refl _ _) _⟩
  by_cases h2 : c = 49
  · subst h2
    go_enter Tryd.func15, Tryd.ntmps15
    go_wp2
    go_quiet (fail)
    go_wp2
    go_ret
    exact ⟨ret_str (rturn_fin l k _ _ rfl), below_drewN (Below.refl _ _) _⟩
  by_cases h3 : c = 35
  · subst h3
    go_enter Tryd.func15, Tryd.ntmps15
    go_wp2
    go_quiet (fail)
    go_wp2
    go_ret
    exact ⟨ret_str (rturn_fin l k _ _ rfl), below_drewN (Below.refl _ _) _⟩
  have d1 : (c == 48) = false := by simpa using h1
  have d2 : (c == 49) = false := by simpa using h2
  have d3 : (c == 35) = false := by simpa using h3
  have HF := Lib.hid (show other c = c by simp [other, h1, h2, h3])
  clear h1 h2 h3
  go_enter Tryd.func15, Tryd.ntmps15
  go_wp2
  go_quiet (fail)
  go_wp2
  go_ret
  exact ⟨ret_str (rturn_fin l k _ _ HF.out), below_drewN (Below.refl _ _) _⟩

theorem rturn_any (l : List UInt8) (i : Int) (w : World) (hs : l.length ≤ 1099511627776) :
    Calls Tryd.prog 15 #[.string ⟨l.toArray⟩, .int .i64 i] w fun e w' => e = .returned (.string ⟨(turn l i).toArray⟩) ∧ Below w.heap.size w w' := by
  by_cases h0 : i < 0
  · have HF := Lib.hid (turn_out l i (.inl h0))
    go_enter Tryd.func15, Tryd.ntmps15
    go_wp2
    go_ret
    exact ⟨ret_str HF.out.symm, Below.refl _ _⟩
  by_cases h1 : (l.length : Int) ≤ i
  · have HF := Lib.hid (turn_out l i (.inr h1))
    go_enter Tryd.func15, Tryd.ntmps15
    go_wp2
    go_ret
    exact ⟨ret_str HF.out.symm, Below.refl _ _⟩
  obtain ⟨k, rfl⟩ := Int.eq_ofNat_of_zero_le (by omega : 0 ≤ i)
  have hk : k < l.length := by omega
  refine (rturn_core l k l[k] w hs hk (drop_take_one l k hk)).mono ?_
  rintro e w' ⟨rfl, hb⟩
  exact ⟨ret_str ((turn_in l k hk).trans (rturn_in l k hk).symm).symm, hb⟩

end Go.Proofs.YtkflijbhlibadabDoor
/-
  Contracts of the reference's Bits and Num.
-/
namespace Go.Proofs.YtkflijbhlibadabDoor
open Go.RowKit Plait
set_option maxRecDepth 100000
set_option linter.unusedVariables false

theorem bitsL_take (n : Int) (size k : Nat) (h : k < size) : (bitsL n size).take (k + 1) = (bitsL n size).take k ++ [bitAt n size k] := by
  rw [List.take_succ_eq_append_getElem (by rw [bitsL_length]; exact h), bitsL_get]

/-- The reference's loop of Bits: the first k bits are there. -/
def RBitsAt (n : Int) (size : Nat) (s i : Value) : Prop :=
  ∃ k : Nat, k ≤ size ∧ i = .int .i64 ((size : Int) - 1 - k) ∧ s = .string ⟨((bitsL n size).take k).toArray⟩

set_option maxHeartbeats 400000 in
theorem rbits_in (n : Int) (size : Nat) (w : World) (h1 : 1 ≤ size) (h2 : size ≤ 62) :
    Calls Tryd.prog 27 #[.int .i64 n, .int .i64 size] w fun e w' => e = .returned (.string ⟨(bitsL n size).toArray⟩) ∧ w = w' := by
  have d1 : decide ((size : Int) < 1) = false := by simp; omega
  have d2 : decide ((62 : Int) < (size : Int)) = false := by simp; omega
  go_enter Tryd.func27, Tryd.ntmps27
  go_wp2
  go_loop [5, 6] (fun s i => RBitsAt n size s i) (fun _ i => (intOf i + 1).toNat)
  case atStart => exact ⟨0, Nat.zero_le _, by simp, by simp⟩
  case round =>
    obtain ⟨k, hk, rfl, rfl⟩ := hrel
    have hlen : ((bitsL n size).take k).length ≤ 62 := by rw [List.length_take, bitsL_length]; omega
    by_cases hlt : k < size
    · obtain ⟨j, hj⟩ : ∃ j : Nat, (size : Int) - 1 - k = j := ⟨size - 1 - k, by omega⟩
      have hj2 : size - 1 - k = j := by omega
      have hT := bitsL_take n size k hlt
      rw [bitAt, hj2] at hT
      have HJ := Lib.hid hj
      have hjl : j ≤ 62 := by omega
      have hand := and_one (n / 2 ^ j)
      rw [hj]
      by_cases hb : n / 2 ^ j % 2 = 1
      · rw [if_pos hb] at hT
        have HT := Lib.hid hT
        have d3 : (n / 2 ^ j % 2 == 1) = true := by simpa using hb
        generalize (bitsL n size).take k = L at *
        clear hj hj2 hT hb
        go_wp2
        go_round
        case rel =>
          have e := HJ.out
          exact ⟨k + 1, by omega, congrArg (Value.int .i64) (by omega), by rw [HT.out]⟩
        case measure => simp [intOf]
      · rw [if_neg hb] at hT
        have HT := Lib.hid hT
        have d3 : (n / 2 ^ j % 2 == 1) = false := by simpa using hb
        generalize (bitsL n size).take k = L at *
        clear hj hj2 hT hb
        go_wp2
        go_round
        case rel =>
          have e := HJ.out
          exact ⟨k + 1, by omega, congrArg (Value.int .i64) (by omega), by rw [HT.out]⟩
        case measure => simp [intOf]
    · have hk' : (size : Int) - 1 - k = -1 := by omega
      rw [hk', List.take_of_length_le (by rw [bitsL_length]; omega)]
      clear hk' hlen
      go_wp2
      go_ret
      exact ⟨rfl, rfl⟩

theorem rbits_any (n size : Int) (w : World) :
    Calls Tryd.prog 27 #[.int .i64 n, .int .i64 size] w fun e w' => e = .returned (.string ⟨(bitsI n size).toArray⟩) ∧ w = w' := by
  by_cases h1 : size < 1
  · have HF := Lib.hid (show bitsI n size = [] by unfold bitsI; rw [if_neg (by omega)])
    go_enter Tryd.func27, Tryd.ntmps27
    go_wp2
    go_ret
    exact ⟨ret_str HF.out.symm, rfl⟩
  by_cases h2 : 62 < size
  · have HF := Lib.hid (show bitsI n size = [] by unfold bitsI; rw [if_neg (by omega)])
    go_enter Tryd.func27, Tryd.ntmps27
    go_wp2
    go_ret
    exact ⟨ret_str HF.out.symm, rfl⟩
  obtain ⟨k, rfl⟩ := Int.eq_ofNat_of_zero_le (by omega : 0 ≤ size)
  have HF := Lib.hid (show bitsI n k = bitsL n k by unfold bitsI; rw [if_pos (by omega)]; rfl)
  refine (rbits_in n k w (by omega) (by omega)).mono ?_
  rintro e w' ⟨rfl, hb⟩
  exact ⟨ret_str HF.out.symm, hb⟩

/-- The reference's loop of Num. -/
def RNumAt (l : List UInt8) (n i : Value) : Prop :=
  ∃ k : Nat, k ≤ l.length ∧ i = .int .i64 k ∧ (∀ c ∈ l.take k, bitB c = true) ∧ n = .int .i64 (numV (l.take k))

set_option maxHeartbeats 800000 in
theorem rnum_in (l : List UInt8) (w : World) (h1 : 1 ≤ l.length) (h2 : l.length ≤ 62) :
    Calls Tryd.prog 73 #[.string ⟨l.toArray⟩] w fun e w' => e = .returned (numR l) ∧ w = w' := by
  have d1 : decide ((l.length : Int) < 1) = false := by simp; omega
  have d2 : decide ((62 : Int) < (l.length : Int)) = false := by simp; omega
  go_enter Tryd.func73, Tryd.ntmps73
  go_wp2
  go_loop [4, 5] (fun n i => RNumAt l n i) (fun _ i => l.length - (intOf i).toNat)
  case atStart => exact ⟨0, Nat.zero_le _, rfl, by simp, rfl⟩
  case round =>
    obtain ⟨k, hp, rfl, hb, rfl⟩ := hrel
    have HB := Lib.hid hb
    clear hb
    have hv : numV (l.take k) < 2 ^ k := by have := numV_lt (l.take k); rwa [List.length_take, Nat.min_eq_left hp] at this
    have HV := Lib.hid hv
    clear hv
    by_cases hlt : k < l.length
    · have hv2 : numV (l.take k) < 2305843009213693952 := by
        have : (2 : Nat) ^ k ≤ 2 ^ 61 := Nat.pow_le_pow_right (by decide) (by omega)
        exact Nat.lt_of_lt_of_le HV.out this
      have hT := numV_take l k hlt
      by_cases h49 : l[k] = 49
      · rw [if_pos h49] at hT
        have HT := Lib.hid hT
        have HB2 := Lib.hid (bits_snoc l k hlt HB.out (by rw [h49]; decide))
        have e1 : ((l[k].toNat : Int) != 48) = true := by rw [h49]; decide
        have e2 : ((l[k].toNat : Int) != 49) = false := by rw [h49]; decide
        have e3 : ((l[k].toNat : Int) == 49) = true := by rw [h49]; decide
        generalize numV (l.take k) = N at *
        clear h49 hT
        go_wp2
        go_round
        case rel => exact ⟨k + 1, by omega, by go_num, HB2.out, by rw [HT.out]; go_num⟩
        case measure => simp [intOf]; omega
      · rw [if_neg h49] at hT
        have HT := Lib.hid hT
        have e3 : ((l[k].toNat : Int) == 49) = false := byte_ne _ 49 (by decide) h49
        have e2 : ((l[k].toNat : Int) != 49) = true := by rw [bne, e3]; rfl
        by_cases h48 : l[k] = 48
        · have HB2 := Lib.hid (bits_snoc l k hlt HB.out (by rw [h48]; decide))
          have e1 : ((l[k].toNat : Int) != 48) = false := by rw [h48]; decide
          generalize numV (l.take k) = N at *
          clear h48 h49 hT
          go_wp2
          go_round
          case rel => exact ⟨k + 1, by omega, by go_num, HB2.out, by rw [HT.out]; go_num⟩
          case measure => simp [intOf]; omega
        · have e1 : ((l[k].toNat : Int) != 48) = true := by
            have e0 : ((l[k].toNat : Int) == 48) = false := byte_ne _ 48 (by decide) h48
            rw [bne, e0]; rfl
          have HF := Lib.hid (numR_no l (numOk_no l k hlt (by simp [bitB, h48, h49])))
          generalize numV (l.take k) = N at *
          clear h48 h49 hT
          go_wp2
          go_ret2
          exact ⟨congrArg Ending.returned HF.out.symm, rfl⟩
    · have ht : l.take k = l := List.take_of_length_le (by omega)
      have HF := Lib.hid (numR_yes l h1 h2 (by have := HB.out; rw [ht] at this; exact this))
      rw [ht]
      clear ht
      go_wp2
      go_ret2
      exact ⟨congrArg Ending.returned HF.out.symm, rfl⟩

theorem rnum_any (l : List UInt8) (w : World) (hs : l.length ≤ 1099511627776) :
    Calls Tryd.prog 73 #[.string ⟨l.toArray⟩] w fun e w' => e = .returned (numR l) ∧ w = w' := by
  by_cases h1 : l.length < 1
  · have HF := Lib.hid (numR_no l (by simp [numOk]; omega))
    have d1 : decide ((l.length : Int) < 1) = true := by simp; omega
    go_enter Tryd.func73, Tryd.ntmps73
    go_wp2
    go_ret2
    exact ⟨congrArg Ending.returned HF.out.symm, rfl⟩
  by_cases h2 : 62 < l.length
  · have HF := Lib.hid (numR_no l (by simp [numOk]; omega))
    have d1 : decide ((l.length : Int) < 1) = false := by simp; omega
    have d2 : decide ((62 : Int) < (l.length : Int)) = true := by simp; omega
    go_enter Tryd.func73, Tryd.ntmps73
    go_wp2
    go_ret2
    exact ⟨congrArg Ending.returned HF.out.symm, rfl⟩
  exact rnum_in l w (by omega) (by omega)

end Go.Proofs.YtkflijbhlibadabDoor
/-
  Contracts of the reference's sums: Sum, Wrap, Open, for every text; nothing that was in memory is changed.
-/
namespace Go.Proofs.YtkflijbhlibadabDoor
open Go.RowKit Plait
set_option maxRecDepth 100000
set_option linter.unusedVariables false

theorem reg_out (R : BitVec 16) : ((R.toNat : Int) / 32768 == 1) = R.msb := by
  have h := R.isLt
  rw [BitVec.msb_eq_decide, Bool.eq_iff_iff, beq_iff_eq, decide_eq_true_iff]
  simp only [Nat.reducePow, Nat.reduceSub] at *
  omega

theorem reg_up (R : BitVec 16) : bits .and .i64 ((R.toNat : Int) * 2) 65535 = ((R <<< 1).toNat : Int) := by
  have h := and_mask ((R.toNat : Int) * 2) 16 (by decide)
  rw [show ((2 : Int) ^ 16 - 1) = 65535 by decide, show ((2 : Int) ^ 16) = 65536 by decide] at h
  rw [h, BitVec.toNat_shiftLeft, Nat.shiftLeft_eq]
  simp only [Nat.reducePow]
  omega

theorem wrap_xor (a b : Nat) (ha : a < 65536) (hb : b < 65536) : bits .xor .i64 (a : Int) (b : Int) = ((a ^^^ b : Nat) : Int) := by
  have hdef : bits .xor .i64 (a : Int) (b : Int) = IntKind.i64.wrap ((BitVec.ofInt 64 (a : Int) ^^^ BitVec.ofInt 64 (b : Int)).toNat : Int) := rfl
  have e : ∀ n : Nat, n < 65536 → (BitVec.ofInt 64 (n : Int)).toNat = n := by
    intro n hn
    rw [BitVec.toNat_ofInt]
    simp only [Nat.reducePow]
    omega
  have hx : a ^^^ b < 2 ^ 16 := Nat.xor_lt_two_pow (by simpa using ha) (by simpa using hb)
  rw [hdef, BitVec.toNat_xor, e a ha, e b hb, wrap_small _ (by omega) (by omega)]

theorem reg_laid (X : BitVec 16) : bits .xor .i64 (X.toNat : Int) 4129 = ((X ^^^ 0x1021#16).toNat : Int) := by
  have h := X.isLt
  have := wrap_xor X.toNat 4129 (by simpa using h) (by decide)
  rw [BitVec.toNat_xor]
  exact this

theorem step_if (R : BitVec 16) (b : Bool) : stepB R b = if R.msb != b then (R <<< 1) ^^^ 0x1021#16 else R <<< 1 := by
  unfold stepB L
  cases R.msb <;> cases b <;> simp [BitVec.xor_assoc]

theorem sum_take (l : List UInt8) (k : Nat) (h : k < l.length) : sumB (l.take (k + 1)) = stepB (sumB (l.take k)) (l[k] == 49) := by
  rw [List.take_succ_eq_append_getElem h, sum_append]
  rfl

theorem byte49 (c : UInt8) : ((c.toNat : Int) == 49) = (c == 49) := byte_eq c 49 (by decide)

/-- The loop of the reference's Sum. -/
def RSumAt (l : List UInt8) (r i : Value) : Prop := ∃ k : Nat, k ≤ l.length ∧ i = .int .i64 k ∧ r = .int .i64 ((sumB (l.take k)).toNat : Int)

set_option maxHeartbeats 800000 in
theorem rsum_any (l : List UInt8) (w : World) (hs : l.length ≤ 1099511627776) :
    Calls Tryd.prog 40 #[.string ⟨l.toArray⟩] w fun e w' => e = .returned (.int .i64 (sumI l)) ∧ w = w' := by
  go_enter Tryd.func40, Tryd.ntmps40
  go_wp2
  go_loop [3, 4] (fun r i => RSumAt l r i) (fun _ i => l.length - (intOf i).toNat)
  case atStart => exact ⟨0, Nat.zero_le _, rfl, by simp [sumB, vals, feed]⟩
  case round =>
    obtain ⟨k, hk, rfl, rfl⟩ := hrel
    by_cases hlt : k < l.length
    · have hT := sum_take l k hlt
      rw [step_if] at hT
      have h49 := byte49 l[k]
      have hx := (sumB (l.take k)).isLt
      have h1 := reg_out (sumB (l.take k))
      have h2 := reg_up (sumB (l.take k))
      have h3 := reg_laid (sumB (l.take k) <<< 1)
      have HN := Lib.hid (show (sumB (l.take (k + 1))).toNat = if (sumB (l.take k)).msb != (l[k] == 49) then ((sumB (l.take k) <<< 1) ^^^ 0x1021#16).toNat else (sumB (l.take k) <<< 1).toNat by rw [hT]; split <;> rfl)
      clear hT
      generalize ((sumB (l.take k) <<< 1) ^^^ 0x1021#16).toNat = z at *
      generalize (sumB (l.take k) <<< 1).toNat = y at *
      generalize (sumB (l.take k)).toNat = x at *
      generalize (sumB (l.take k)).msb = o at *
      generalize (l[k] == 49) = b at *
      have hx' : x ≤ 65535 := by simp only [Nat.reducePow] at hx; omega
      clear hx
      rw [bne] at HN
      cases hd : (o == b)
      · rw [hd, if_pos (by simp)] at HN
        go_wp2
        go_round
        case rel => exact ⟨k + 1, by omega, by go_num, by rw [HN.out]⟩
        case measure => simp [intOf]; omega
      · rw [hd, if_neg (by simp)] at HN
        go_wp2
        go_round
        case rel => exact ⟨k + 1, by omega, by go_num, by rw [HN.out]⟩
        case measure => simp [intOf]; omega
    · rw [show l.take k = l from List.take_of_length_le (by omega)]
      have HS := Lib.hid (show ((sumB l).toNat : Int) = sumI l from rfl)
      generalize (sumB l).toNat = x at *
      go_wp2
      go_ret
      exact ⟨ret_int HS.out, rfl⟩

theorem rwrap_any (l : List UInt8) (w : World) (hs : l.length ≤ 1048576) :
    Calls Tryd.prog 29 #[.string ⟨l.toArray⟩] w fun e w' => e = .returned (.string ⟨(wrapL l).toArray⟩) ∧ w = w' := by
  have hb : bitsI (sumI l) 16 = bitsL (sumI l) 16 := by unfold bitsI; rw [if_pos (by omega)]; rfl
  have hlb : (bitsL (sumI l) 16).length = 16 := bitsL_length _ _
  have HW := Lib.hid (show l ++ bitsL (sumI l) 16 ++ [35] = wrapL l from rfl)
  have HB := Lib.hid hb
  have hlb2 : (bitsL (sumI l) 16).length ≤ 16 := by omega
  clear hb hlb
  go_enter Tryd.func29, Tryd.ntmps29
  go_wp2_with fail
  refine (rsum_any l _ (by omega)).mono ?_
  rintro e w1 ⟨rfl, rfl⟩
  go_wp2_with fail
  refine (rbits_any _ _ _).mono ?_
  rintro e w1 ⟨rfl, rfl⟩
  rw [HB.out]
  generalize bitsL (sumI l) 16 = B at *
  go_wp2
  go_ret
  exact ⟨ret_str (by rw [← HW.out]; simp), rfl⟩

/-- What Open answers, as a value. -/
def openR (l : List UInt8) : Value := .tuple #[.string ⟨(openP l).1.toArray⟩, .int .i64 (openP l).2]

theorem openR_tail (l : List UInt8) (h : wholeB l = false) : openR l = .tuple #[.string ⟨#[]⟩, .int .i64 4] := by
  simp [openR, openP, h]
theorem openR_cut (l : List UInt8) (h : wholeB l = true) (h2 : l.length < 17) : openR l = .tuple #[.string ⟨#[]⟩, .int .i64 3] := by
  simp [openR, openP, h, h2]
theorem openR_sum (l : List UInt8) (n : Nat) (h : wholeB l = true) (h2 : l.length = n + 17) (h3 : ((l.drop n).take 16 == bitsL (sumI (l.take n)) 16) = false) : openR l = .tuple #[.string ⟨#[]⟩, .int .i64 5] := by
  have e : l.length - 17 = n := by omega
  have h3' : ¬ (l.drop n).take 16 = bitsL (sumI (l.take n)) 16 := by simpa using h3
  have h17 : ¬ l.length < 17 := by omega
  simp [openR, openP, h, h17, e, h3']
theorem openR_ok (l : List UInt8) (n : Nat) (h : wholeB l = true) (h2 : l.length = n + 17) (h3 : ((l.drop n).take 16 == bitsL (sumI (l.take n)) 16) = true) : openR l = .tuple #[.string ⟨(l.take n).toArray⟩, .int .i64 0] := by
  have e : l.length - 17 = n := by omega
  have h3' : (l.drop n).take 16 = bitsL (sumI (l.take n)) 16 := by simpa using h3
  have h17 : ¬ l.length < 17 := by omega
  simp [openR, openP, h, h17, e, h3']

set_option maxHeartbeats 1600000 in
theorem ropen_any (l : List UInt8) (w : World) (hs : l.length ≤ 1048576) :
    Calls Tryd.prog 48 #[.string ⟨l.toArray⟩] w fun e w' => e = .returned (openR l) ∧ Below w.heap.size w w' := by
  have hB : Below w.heap.size w w := Below.refl _ _
  by_cases hw : wholeB l = true
  · by_cases h17 : l.length < 17
    · have HF := Lib.hid (openR_cut l hw h17)
      have d : decide ((l.length : Int) - 1 - 16 < 0) = true := by simp; omega
      go_enter Tryd.func48, Tryd.ntmps48
      go_wp2_with fail
      refine (rwhole_any l _ (by omega)).mono ?_
      rintro e w1 ⟨rfl, rfl⟩
      rw [hw]
      clear hw
      go_wp2
      go_ret2
      exact ⟨congrArg Ending.returned HF.out.symm, hB⟩
    · obtain ⟨n, hn⟩ : ∃ n, l.length = n + 17 := ⟨l.length - 17, by omega⟩
      obtain ⟨m, hm⟩ : ∃ m, m = n + 16 := ⟨_, rfl⟩
      have r1 : (l.length : Int) - 1 = (m : Int) := by omega
      have r2 : (m : Int) - 16 = (n : Int) := by omega
      have r3 : m - n = 16 := by omega
      have r4 : IntKind.i64.wrap (m : Int) = (m : Int) := wrap_small _ (by omega) (by omega)
      have b1 : n ≤ l.length := by omega
      have b2 : m ≤ l.length := by omega
      have b3 : n ≤ m := by omega
      have g1 : (0 : Int) ≤ (n : Int) := by omega
      have g2 : (n : Int) ≤ (m : Int) := by omega
      have g3 : (m : Int) ≤ (l.length : Int) := by omega
      have g4 : (n : Int) ≤ (l.length : Int) := by omega
      have d : decide ((n : Int) < 0) = false := by simp
      have hb : bitsI (sumI (l.take n)) 16 = bitsL (sumI (l.take n)) 16 := by unfold bitsI; rw [if_pos (by omega)]; rfl
      have ht : (l.take n).length ≤ 1048576 := by rw [List.length_take]; omega
      have HN := Lib.hid hn
      cases h3 : ((l.drop n).take 16 == bitsL (sumI (l.take n)) 16)
      · have HF := Lib.hid (openR_sum l n hw hn h3)
        clear hn hm
        go_enter Tryd.func48, Tryd.ntmps48
        go_wp2_with fail
        refine (rwhole_any l _ (by omega)).mono ?_
        rintro e w1 ⟨rfl, rfl⟩
        rw [hw]
        clear hw
        go_wp2_with fail
        go_region_held3 (fun W => Below w.heap.size w W) (first | exact hB.drew | assumption)
          (first
          | (go_at_call 40; refine (rsum_any _ _ ?_).mono ?_; omega; rintro e wl ⟨rfl, rfl⟩)
          | (go_at_call 27; refine (rbits_any _ _ _).mono ?_; rintro e wl ⟨rfl, rfl⟩))
        go_wp2
        go_ret2
        exact ⟨congrArg Ending.returned HF.out.symm, by assumption⟩
      · have HF := Lib.hid (openR_ok l n hw hn h3)
        clear hn hm
        go_enter Tryd.func48, Tryd.ntmps48
        go_wp2_with fail
        refine (rwhole_any l _ (by omega)).mono ?_
        rintro e w1 ⟨rfl, rfl⟩
        rw [hw]
        clear hw
        go_wp2_with fail
        go_region_held3 (fun W => Below w.heap.size w W) (first | exact hB.drew | assumption)
          (first
          | (go_at_call 40; refine (rsum_any _ _ ?_).mono ?_; omega; rintro e wl ⟨rfl, rfl⟩)
          | (go_at_call 27; refine (rbits_any _ _ _).mono ?_; rintro e wl ⟨rfl, rfl⟩))
        go_wp2
        go_ret2
        exact ⟨congrArg Ending.returned HF.out.symm, by assumption⟩
  · have hw' : wholeB l = false := by simpa using hw
    have HF := Lib.hid (openR_tail l hw')
    go_enter Tryd.func48, Tryd.ntmps48
    go_wp2_with fail
    refine (rwhole_any l _ (by omega)).mono ?_
    rintro e w1 ⟨rfl, rfl⟩
    rw [hw']
    clear hw hw'
    go_wp2
    go_ret2
    exact ⟨congrArg Ending.returned HF.out.symm, hB⟩

end Go.Proofs.YtkflijbhlibadabDoor
