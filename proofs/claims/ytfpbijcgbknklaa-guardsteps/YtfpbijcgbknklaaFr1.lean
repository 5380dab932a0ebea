/-
  Plain mathematics of frames, with no program in it: what is allowed, how a frame is written and read.
-/
import Derived.Test.YtfpbijcgbknklaaConf1
import Derived.Test.YtfpbijcgbknklaaCrc3
namespace Plait

structure It where
  K : Int
  V : Int
deriving DecidableEq, Inhabited

structure Fr where
  K : Int
  R : Int
  S : Int
  P : It
  E : List It
deriving DecidableEq, Inhabited

def itemB (i : It) (carries : Bool) : Bool := if i.K = 0 then i.V == 0 && !carries else if i.K = 1 then i.V == 0 else if i.K = 2 then decide (0 ≤ i.V) && decide (i.V ≤ 255) else false

/-- How many items such a frame's Echo has. -/
def echoI (c : Cf) (k s : Int) : Int := if k = 3 ∧ s < c.N then slotsI c else 0

/-- The first two tests of a frame, and the third. -/
def badA (c : Cf) (f : Fr) : Bool := decide (f.S < 0) || decide (slotsI c ≤ f.S) || decide (f.R < 0) || decide (65536 ≤ f.R)
def badK (c : Cf) (f : Fr) : Bool := decide (f.K < 1) || decide (3 < f.K) || (f.K != 3 && decide (c.N ≤ f.S))
def badP (f : Fr) : Bool := !itemB f.P (f.K == 3) || (f.K != 3 && f.P.K != 0)

def checkF (c : Cf) (f : Fr) : Int :=
  if badA c f then 1 else if badK c f then 6 else if badP f then 1 else if (f.E.length : Int) ≠ echoI c f.K f.S then 2 else if f.E.all (itemB · false) then 0 else 1

theorem checkF_a (c : Cf) (f : Fr) (h : badA c f = true) : checkF c f = 1 := by simp [checkF, h]
theorem checkF_k (c : Cf) (f : Fr) (h : badA c f = false) (h2 : badK c f = true) : checkF c f = 6 := by simp [checkF, h, h2]
theorem checkF_p (c : Cf) (f : Fr) (h : badA c f = false) (h2 : badK c f = false) (h3 : badP f = true) : checkF c f = 1 := by simp [checkF, h, h2, h3]
theorem checkF_l (c : Cf) (f : Fr) (h : badA c f = false) (h2 : badK c f = false) (h3 : badP f = false) (h4 : (f.E.length : Int) ≠ echoI c f.K f.S) : checkF c f = 2 := by simp [checkF, h, h2, h3, h4]
theorem checkF_e (c : Cf) (f : Fr) (h : badA c f = false) (h2 : badK c f = false) (h3 : badP f = false) (h4 : (f.E.length : Int) = echoI c f.K f.S) : checkF c f = if f.E.all (itemB · false) then 0 else 1 := by simp [checkF, h, h2, h3, h4]

/-- A frame that may be. -/
structure Fr.Ok (c : Cf) (f : Fr) : Prop where
  s0 : 0 ≤ f.S
  s1 : f.S < slotsI c
  r0 : 0 ≤ f.R
  r1 : f.R < 65536
  k1 : 1 ≤ f.K
  k3 : f.K ≤ 3
  kp : f.K = 3 ∨ f.S < c.N
  p : itemB f.P (f.K == 3) = true
  pz : f.K = 3 ∨ f.P.K = 0
  len : (f.E.length : Int) = echoI c f.K f.S
  all : ∀ i ∈ f.E, itemB i false = true

theorem Fr.Ok.check {c : Cf} {f : Fr} (h : f.Ok c) : checkF c f = 0 := by
  obtain ⟨s0, s1, r0, r1, k1, k3, kp, p, pz, len, all⟩ := h
  have a : badA c f = false := by simp [badA]; omega
  have k : badK c f = false := by simp [badK]; omega
  have q : badP f = false := by
    unfold badP
    rw [p]
    simp
    omega
  rw [checkF_e c f a k q len, if_pos (List.all_eq_true.2 all)]

theorem Fr.Ok.of {c : Cf} {f : Fr} (h : checkF c f = 0) : f.Ok c := by
  unfold checkF at h
  split at h
  · simp at h
  · rename_i a
    split at h
    · simp at h
    · rename_i k
      split at h
      · simp at h
      · rename_i p
        split at h
        · simp at h
        · rename_i l
          split at h
          · rename_i e
            have a' : badA c f = false := by simpa using a
            have k' : badK c f = false := by simpa using k
            have p' : badP f = false := by simpa using p
            simp [badA] at a'
            simp [badK] at k'
            unfold badP at p'
            rw [Bool.or_eq_false_iff] at p'
            refine ⟨by omega, by omega, by omega, by omega, by omega, by omega, ?_, by simpa using p'.1, ?_, by omega, List.all_eq_true.1 e⟩
            · by_cases h1 : f.S < c.N
              · exact .inr h1
              · exact .inl (by omega)
            · have := p'.2
              simp at this
              by_cases h3 : f.K = 3
              · exact .inl h3
              · exact .inr (this h3)
          · simp at h

def itBits (i : It) : List UInt8 := bitsL i.K 2 ++ bitsL i.V 8
def frHead (f : Fr) : List UInt8 := bitsL f.K 2 ++ bitsL f.R 16 ++ bitsL f.S 6 ++ itBits f.P
def frBits (f : Fr) : List UInt8 := frHead f ++ f.E.flatMap itBits
def textF (f : Fr) : List UInt8 := wrapL (frBits f)

theorem itBits_length (i : It) : (itBits i).length = 10 := by simp [itBits, bitsL_length]
theorem frHead_length (f : Fr) : (frHead f).length = 34 := by simp [frHead, bitsL_length, itBits_length]
theorem items_length : ∀ E : List It, (E.flatMap itBits).length = 10 * E.length
  | [] => rfl
  | i :: r => by rw [List.flatMap_cons, List.length_append, itBits_length, items_length r, List.length_cons]; omega
theorem frBits_length (f : Fr) : (frBits f).length = 34 + 10 * f.E.length := by rw [frBits, List.length_append, frHead_length, items_length]
theorem textF_length (f : Fr) : (textF f).length = 51 + 10 * f.E.length := by rw [textF, wrapL_length, frBits_length]; omega

theorem itBits_all (i : It) : allBits (itBits i) := by
  intro c hc
  rcases List.mem_append.1 hc with h | h
  · exact bits_all _ _ c h
  · exact bits_all _ _ c h
theorem frHead_all (f : Fr) : allBits (frHead f) := by
  intro c hc
  rcases List.mem_append.1 hc with h | h
  · rcases List.mem_append.1 h with h | h
    · rcases List.mem_append.1 h with h | h
      · exact bits_all _ _ c h
      · exact bits_all _ _ c h
    · exact bits_all _ _ c h
  · exact itBits_all _ c h
theorem frBits_all (f : Fr) : allBits (frBits f) := by
  intro c hc
  rcases List.mem_append.1 hc with h | h
  · exact frHead_all f c h
  · obtain ⟨i, _, h⟩ := List.mem_flatMap.1 h
    exact itBits_all i c h

/-- What a number's bits say. -/
def num0 (l : List UInt8) : Int := if numOk l then (numV l : Int) else 0

theorem num0_bits (x : Int) (k : Nat) (h1 : 1 ≤ k) (h2 : k ≤ 62) (h0 : 0 ≤ x) (hx : x < 2 ^ k) : num0 (bitsL x k) = x := by
  have ho : numOk (bitsL x k) = true := by
    simp [numOk, bitsL_length, h1, h2]
    exact bits_all x k
  rw [num0, if_pos ho, numV_bits]
  exact Int.emod_eq_of_lt h0 hx

theorem num0_range (l : List UInt8) (k : Nat) (h : l.length ≤ k) : 0 ≤ num0 l ∧ num0 l < 2 ^ k := by
  unfold num0
  split
  · have h1 := numV_lt l
    have h2 : (2 : Nat) ^ l.length ≤ 2 ^ k := Nat.pow_le_pow_right (by decide) h
    have h3 : numV l < 2 ^ k := Nat.lt_of_lt_of_le h1 h2
    exact ⟨by omega, by exact_mod_cast h3⟩
  · exact ⟨by omega, Int.pow_pos (by omega)⟩

def itOf (l : List UInt8) : It := ⟨num0 (l.take 2), num0 ((l.drop 2).take 8)⟩
def frOf (b : List UInt8) : Fr := ⟨num0 (b.take 2), num0 ((b.drop 2).take 16), num0 ((b.drop 18).take 6), itOf ((b.drop 24).take 10), []⟩
def itsOf (l : List UInt8) (n : Nat) : List It := (List.range n).map fun i => itOf ((l.drop (10 * i)).take 10)

def Fr.with (f : Fr) (E : List It) : Fr := { f with E := E }
def zeroF : Fr := ⟨0, 0, 0, ⟨0, 0⟩, []⟩

/-- What Read answers of the bits. -/
def readB (c : Cf) (b : List UInt8) : Fr × Int :=
  if b.length < 34 then (zeroF, 3)
  else if (b.length : Int) - 34 ≠ 10 * echoI c (frOf b).K (frOf b).S then (zeroF, 2)
  else if checkF c ((frOf b).with (itsOf (b.drop 34) ((b.length - 34) / 10))) ≠ 0 then (zeroF, checkF c ((frOf b).with (itsOf (b.drop 34) ((b.length - 34) / 10))))
  else ((frOf b).with (itsOf (b.drop 34) ((b.length - 34) / 10)), 0)

/-- What Read answers. -/
def readF (c : Cf) (l : List UInt8) : Fr × Int := if (openP l).2 ≠ 0 then (zeroF, (openP l).2) else readB c (openP l).1

theorem itOf_bits (i : It) (b : Bool) (h : itemB i b = true) : itOf (itBits i) = i := by
  have hK : (0 ≤ i.K ∧ i.K < 4) ∧ 0 ≤ i.V ∧ i.V < 256 := by
    unfold itemB at h
    split at h
    · simp at h; omega
    · split at h
      · simp at h; omega
      · split at h
        · simp at h; omega
        · simp at h
  obtain ⟨⟨k0, k1⟩, v0, v1⟩ := hK
  unfold itOf itBits
  rw [List.take_left' (bitsL_length _ _), List.drop_left' (bitsL_length _ _), List.take_of_length_le (by rw [bitsL_length]; omega), num0_bits i.K 2 (by omega) (by omega) k0 (by omega), num0_bits i.V 8 (by omega) (by omega) v0 (by omega)]

theorem itsOf_bits : ∀ (E : List It), (∀ i ∈ E, itemB i false = true) → itsOf (E.flatMap itBits) E.length = E
  | [], _ => rfl
  | i :: r, h => by
    have ih := itsOf_bits r (fun j hj => h j (List.mem_cons_of_mem _ hj))
    unfold itsOf at ih ⊢
    rw [List.length_cons, List.range_succ_eq_map, List.map_cons, List.map_map, List.flatMap_cons]
    refine List.cons_eq_cons.2 ⟨?_, ?_⟩
    · rw [Nat.mul_zero, List.drop_zero, List.take_left' (itBits_length i)]
      exact itOf_bits i false (h i (List.mem_cons_self ..))
    · refine Eq.trans ?_ ih
      apply List.map_congr_left
      intro k _
      show itOf ((List.drop (10 * (k + 1)) (itBits i ++ List.flatMap itBits r)).take 10) = _
      rw [show 10 * (k + 1) = 10 + 10 * k by omega, ← List.drop_drop, List.drop_left' (itBits_length i)]

theorem frOf_bits (c : Cf) (f : Fr) (hc : c.Ok) (h : f.Ok c) (E : List UInt8) : frOf (frHead f ++ E) = f.with [] := by
  obtain ⟨s0, s1, r0, r1, k1, k3, kp, p, pz, len, all⟩ := h
  have hs : slotsI c ≤ 15 := by have := hc.n12; have := hc.len; unfold slotsI; omega
  unfold frOf Fr.with frHead
  simp only [List.append_assoc]
  rw [List.take_left' (bitsL_length _ _), List.drop_left' (bitsL_length _ _), List.take_left' (bitsL_length _ _)]
  rw [show (18 : Nat) = 2 + 16 by rfl, ← List.drop_drop, List.drop_left' (bitsL_length _ _), List.drop_left' (bitsL_length _ _), List.take_left' (bitsL_length _ _)]
  rw [show (24 : Nat) = 2 + 16 + 6 by rfl, ← List.drop_drop, ← List.drop_drop, List.drop_left' (bitsL_length _ _), List.drop_left' (bitsL_length _ _), List.drop_left' (bitsL_length _ _), List.take_left' (itBits_length _)]
  rw [num0_bits f.K 2 (by omega) (by omega) (by omega) (by omega), num0_bits f.R 16 (by omega) (by omega) (by omega) (by omega), num0_bits f.S 6 (by omega) (by omega) (by omega) (by omega), itOf_bits f.P _ p]

/-- What was written is read as it was. -/
theorem readB_bits (c : Cf) (f : Fr) (hc : c.Ok) (h : f.Ok c) : readB c (frBits f) = (f, 0) := by
  have hl := frBits_length f
  have ho := frOf_bits c f hc h (f.E.flatMap itBits)
  have hi := itsOf_bits f.E h.all
  have e : (frOf (frBits f)).with (itsOf ((frBits f).drop 34) (((frBits f).length - 34) / 10)) = f := by
    rw [show ((frBits f).length - 34) / 10 = f.E.length by omega]
    unfold frBits
    rw [ho, List.drop_left' (frHead_length f), hi]
    rfl
  unfold readB
  rw [e, if_neg (by omega), if_neg, if_neg]
  · rw [h.check]; simp
  · have : (frOf (frBits f)).K = f.K ∧ (frOf (frBits f)).S = f.S := by
      unfold frBits
      rw [ho]
      exact ⟨rfl, rfl⟩
    rw [this.1, this.2, ← h.len]
    omega

theorem readF_text (c : Cf) (f : Fr) (hc : c.Ok) (h : f.Ok c) : readF c (textF f) = (f, 0) := by
  unfold readF textF
  rw [open_wrap _ (frBits_all f)]
  simp
  exact readB_bits c f hc h

theorem textF_inj (c : Cf) (f g : Fr) (hc : c.Ok) (hf : f.Ok c) (hg : g.Ok c) (h : textF f = textF g) : f = g := by
  have h1 := readF_text c f hc hf
  have h2 := readF_text c g hc hg
  rw [h, h2] at h1
  exact (Prod.ext_iff.1 h1).1.symm

/-- A front of a frame's text but itself. -/
theorem front_refused (f : Fr) (k : Nat) (h : k < (textF f).length) (c : Cf) : readF c ((textF f).take k) = (zeroF, 4) := by
  have hb : allBits ((textF f).take k) := by
    have hk : k ≤ (wrapB (frBits f)).length := by
      rw [textF, wrapL_length] at h
      rw [wrapB_length]
      omega
    unfold textF
    rw [wrapL_eq, List.take_append_of_le_length hk]
    exact fun c hc => wrapB_bits _ (frBits_all f) c (List.mem_of_mem_take hc)
  have ho : openP ((textF f).take k) = ([], 4) := by
    unfold openP
    rw [if_pos (bits_not_whole _ hb)]
  unfold readF
  rw [ho]
  rfl

theorem behind_refused (f : Fr) (s : UInt8) (c : Cf) : readF c (textF f ++ [s]) = (zeroF, 4) := by
  unfold readF textF
  rw [more_behind _ (frBits_all f)]
  rfl

theorem turn1_refused (f : Fr) (k : Nat) (h : k + 1 < (textF f).length) (c : Cf) : readF c (turn (textF f) (k : Int)) = (zeroF, 5) := by
  have hk : k < (frBits f).length + 16 := by rw [textF, wrapL_length] at h; omega
  unfold readF textF
  rw [one_refused _ (frBits_all f) k hk]
  rfl

theorem turn2_refused (f : Fr) (i j : Nat) (hE : f.E.length ≤ 15) (hi : i + 1 < (textF f).length) (hj : j + 1 < (textF f).length) (hij : i ≠ j) (c : Cf) : readF c (turn (turn (textF f) (i : Int)) (j : Int)) = (zeroF, 5) := by
  have hl := frBits_length f
  rw [textF, wrapL_length] at hi hj
  unfold readF textF
  rw [two_refused _ (frBits_all f) (by omega) i j (by omega) (by omega) hij]
  rfl

/-- The text of the same bits behind another network is refused as too long, where it says again what was taken. -/
theorem other_refused (c d : Cf) (f : Fr) (hc : c.Ok) (h : f.Ok c) (hK : f.K = 3) (hS : f.S < c.N) (hN : d.N = c.N) (hne : slotsI d ≠ slotsI c) : readF d (textF f) = (zeroF, 2) ∧ (checkF d f = 2 ∨ slotsI d ≤ f.S) := by
  have hl := frBits_length f
  have ho := frOf_bits c f hc h (f.E.flatMap itBits)
  have hlen := h.len
  have he : echoI c f.K f.S = slotsI c := by unfold echoI; rw [if_pos ⟨hK, hS⟩]
  have he2 : echoI d f.K f.S = slotsI d := by unfold echoI; rw [if_pos ⟨hK, by omega⟩]
  rw [he] at hlen
  refine ⟨?_, ?_⟩
  · unfold readF textF
    rw [open_wrap _ (frBits_all f)]
    rw [if_neg (by simp)]
    show readB d (frBits f) = _
    have : (frOf (frBits f)).K = f.K ∧ (frOf (frBits f)).S = f.S := by
      unfold frBits
      rw [ho]
      exact ⟨rfl, rfl⟩
    unfold readB
    rw [if_neg (by omega), if_pos]
    rw [this.1, this.2, he2]
    omega
  · by_cases hs : slotsI d ≤ f.S
    · exact .inr hs
    · left
      obtain ⟨s0, s1, r0, r1, k1, k3, kp, p, pz, len, all⟩ := h
      refine checkF_l d f ?_ ?_ ?_ ?_
      · simp [badA]; omega
      · simp [badK]; omega
      · unfold badP
        rw [p]
        simp
        omega
      · rw [he2]; omega

/-- One item that may be. -/
def itemOf (n : Int) (carries : Bool) : It := if (if carries && n % 3 == 0 then 2 else n % 3) = 2 then ⟨2, n.tdiv 3 % 256⟩ else ⟨n % 3, 0⟩

theorem itemOf_ok (n : Int) (b : Bool) : itemB (itemOf n b) b = true := by
  have h0 : 0 ≤ n % 3 := by omega
  have h3 : n % 3 < 3 := by omega
  have v0 : 0 ≤ n.tdiv 3 % 256 := Int.emod_nonneg _ (by omega)
  have v1 : n.tdiv 3 % 256 < 256 := Int.emod_lt_of_pos _ (by omega)
  unfold itemOf
  generalize n.tdiv 3 % 256 = v at *
  rcases (by omega : n % 3 = 0 ∨ n % 3 = 1 ∨ n % 3 = 2) with h | h | h <;> cases b <;> simp [h, itemB] <;> omega

/-- Which number makes the i-th item of Echo. -/
def echoN (ns : List Int) (i : Nat) : Int := if 0 < ns.length then (ns.getD (i % ns.length) 0).tdiv (1 + (i : Int)) + i else i

def makeK (c : Cf) (f : Fr) : Int := if c.N ≤ f.S % slotsI c then 3 else 1 + f.K % 3
def makeE (ns : List Int) (k : Nat) : List It := (List.range k).map fun i => itemOf (echoN ns i) false

/-- The frame that the laws make of any one. -/
def makeF (c : Cf) (f : Fr) (ns : List Int) : Fr :=
  if makeK c f = 3 then ⟨3, f.R % 65536, f.S % slotsI c, itemOf f.P.V true, makeE ns (if f.S % slotsI c < c.N then (slotsI c).toNat else 0)⟩
  else ⟨makeK c f, f.R % 65536, f.S % slotsI c, ⟨0, 0⟩, []⟩

theorem makeE_len (ns : List Int) (k : Nat) : (makeE ns k).length = k := by simp [makeE]
theorem makeE_succ (ns : List Int) (k : Nat) : makeE ns (k + 1) = makeE ns k ++ [itemOf (echoN ns k) false] := by simp [makeE, List.range_succ]
theorem makeE_all (ns : List Int) (k : Nat) : ∀ i ∈ makeE ns k, itemB i false = true := by
  intro i hi
  unfold makeE at hi
  rw [List.mem_map] at hi
  obtain ⟨j, _, rfl⟩ := hi
  exact itemOf_ok _ _

theorem makeF_ok (c : Cf) (f : Fr) (ns : List Int) (hc : c.Ok) : (makeF c f ns).Ok c := by
  have h6 := hc.n6
  have hs : 0 < slotsI c := by unfold slotsI; omega
  have s0 : 0 ≤ f.S % slotsI c := Int.emod_nonneg _ (by omega)
  have s1 : f.S % slotsI c < slotsI c := Int.emod_lt_of_pos _ hs
  have r0 : 0 ≤ f.R % 65536 := by omega
  have r1 : f.R % 65536 < 65536 := by omega
  unfold makeF
  by_cases hk : makeK c f = 3
  · rw [if_pos hk]
    refine ⟨s0, s1, r0, r1, by simp, by simp, .inl rfl, itemOf_ok _ _, .inl rfl, ?_, makeE_all _ _⟩
    show ((makeE ns _).length : Int) = echoI c 3 (f.S % slotsI c)
    rw [makeE_len]
    unfold echoI
    by_cases h : f.S % slotsI c < c.N
    · rw [if_pos h, if_pos ⟨rfl, h⟩]; omega
    · rw [if_neg h, if_neg (by simp [h])]; rfl
  · rw [if_neg hk]
    have hk' := hk
    unfold makeK at hk
    have hn : ¬ c.N ≤ f.S % slotsI c := fun e => hk (by rw [if_pos e])
    have e : makeK c f = 1 + f.K % 3 := by unfold makeK; rw [if_neg hn]
    rw [e] at hk' ⊢
    refine ⟨s0, s1, r0, r1, by show 1 ≤ 1 + f.K % 3; omega, by show 1 + f.K % 3 ≤ 3; omega, .inr (by show f.S % slotsI c < c.N; omega), ?_, .inr rfl, ?_, by simp⟩
    · show itemB ⟨0, 0⟩ ((1 + f.K % 3) == 3) = true
      rw [show ((1 + f.K % 3) == 3) = false by simp; omega]
      rfl
    · show ((0 : Nat) : Int) = echoI c (1 + f.K % 3) _
      unfold echoI
      rw [if_neg (by omega)]
      rfl

end Plait
