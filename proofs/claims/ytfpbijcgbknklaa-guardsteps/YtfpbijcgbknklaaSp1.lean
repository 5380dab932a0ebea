/-
  Plain mathematics of a slot, all round, with no program in it: guardians; what each node had in a direction; who is where.
-/
import Derived.Test.YtfpbijcgbknklaaFa1
import Derived.Test.YtfpbijcgbknklaaLa3
namespace Plait

/-- Does a node of that state let its neighbour in? -/
def admitB (c : Cf) (st dev : Int) : Bool := st != 4 || (decide (-windowI c ≤ dev) && decide (dev ≤ windowI c))
def guardL (c : Cf) (st dev : Int) (s : List UInt8) : List UInt8 := if admitB c st dev then s else []

/-- What a node had in one direction. -/
structure Sd where
  D : List UInt8
  S : List UInt8
  O : List UInt8
  F : Int
deriving DecidableEq, Inhabited

def zeroSd : Sd := ⟨[], [], [], 0⟩

/-- A slot's: the network, the locus, round, slot, direction, the owner last in it; whether it is a pair's; what that owner sends, and the other one; states and clocks. -/
structure Sp where
  c : Cf
  f : Fa
  r : Int
  s : Int
  d : Int
  p0 : Int
  pair : Bool
  snd : List UInt8
  oth : List UInt8
  st : Int → Int
  dv : Int → Int

/-- The node so many steps behind the owner. -/
def Sp.nd (x : Sp) (k : Int) : Int := (x.p0 + x.d * k) % x.c.N

/-- What goes by a link, cleaned. -/
def Sp.em (x : Sp) (a b : Int) (l : List UInt8) : List UInt8 := clean (emitL x.c x.f x.r x.s (x.nd a) (x.nd b) l)

/-- The side of the node k + 1 steps on: of what the node ahead passed on, and the one two steps back, if it is known. -/
def Sp.side (x : Sp) (k : Nat) (q : List UInt8) (p : Option (List UInt8)) : Sd :=
  let D0 := x.em k (k + 1) q
  let D := if k = 0 then guardL x.c (x.st (x.nd 1)) (x.dv (x.nd 1)) D0 else D0
  let S := match p with
    | none => []
    | some p => x.em ((k : Int) - 1) (k + 1) p
  ⟨D, S, if x.st (x.nd (k + 1)) = 0 then [] else outL (decide (0 < k) || x.pair) D S, k + 1⟩

/-- What the node k steps on passed on, and the one ahead of it. -/
def Sp.out (x : Sp) : Nat → List UInt8 × Option (List UInt8)
  | 0 => (x.snd, if x.pair then some x.oth else none)
  | k + 1 => ((x.side k (x.out k).1 (x.out k).2).O, some (x.out k).1)

def Sp.sd (x : Sp) (k : Nat) : Sd := x.side k (x.out k).1 (x.out k).2
/-- What the node k steps on passes on. -/
def Sp.o (x : Sp) (k : Nat) : List UInt8 := (x.out k).1

theorem Sp.out_succ (x : Sp) (k : Nat) : x.out (k + 1) = ((x.sd k).O, some (x.o k)) := rfl
theorem Sp.o_zero (x : Sp) : x.o 0 = x.snd := rfl
theorem Sp.o_succ (x : Sp) (k : Nat) : x.o (k + 1) = (x.sd k).O := rfl
theorem Sp.sd_F (x : Sp) (k : Nat) : (x.sd k).F = (k : Int) + 1 := rfl
/-- The first one's direct copy. -/
theorem Sp.D_zero (x : Sp) : (x.sd 0).D = guardL x.c (x.st (x.nd 1)) (x.dv (x.nd 1)) (x.em 0 1 x.snd) := rfl
theorem Sp.D_succ (x : Sp) (k : Nat) : (x.sd (k + 1)).D = x.em ((k : Int) + 1) ((k : Int) + 1 + 1) (x.o (k + 1)) := by
  show x.em ((k + 1 : Nat) : Int) (((k + 1 : Nat) : Int) + 1) (x.o (k + 1)) = _
  rw [Int.natCast_add]; rfl
theorem Sp.S_zero (x : Sp) : (x.sd 0).S = if x.pair then x.em (-1) 1 x.oth else [] := by
  unfold Sp.sd Sp.side
  rw [show x.out 0 = (x.snd, if x.pair then some x.oth else none) from rfl]
  cases x.pair <;> rfl
theorem Sp.S_succ (x : Sp) (k : Nat) : (x.sd (k + 1)).S = x.em (k : Int) ((k : Int) + 1 + 1) (x.o k) := by
  show x.em (((k + 1 : Nat) : Int) - 1) (((k + 1 : Nat) : Int) + 1) (x.o k) = _
  rw [Int.natCast_add, show ((k : Int) + ((1 : Nat) : Int) - 1) = k by omega]; rfl
theorem Sp.O_zero (x : Sp) : (x.sd 0).O = if x.st (x.nd 1) = 0 then [] else outL x.pair (x.sd 0).D (x.sd 0).S := by
  show (if x.st (x.nd (((0 : Nat) : Int) + 1)) = 0 then [] else outL (decide (0 < 0) || x.pair) (x.sd 0).D (x.sd 0).S) = _
  simp
theorem Sp.O_succ (x : Sp) (k : Nat) : (x.sd (k + 1)).O = if x.st (x.nd ((k : Int) + 1 + 1)) = 0 then [] else outL true (x.sd (k + 1)).D (x.sd (k + 1)).S := by
  show (if x.st (x.nd (((k + 1 : Nat) : Int) + 1)) = 0 then [] else outL (decide (0 < k + 1) || x.pair) (x.sd (k + 1)).D (x.sd (k + 1)).S) = _
  rw [Int.natCast_add, show decide (0 < k + 1) = true by simp]; rfl

/-- What is passed on is a stream. -/
theorem Sp.o_clean (x : Sp) (h : clean x.snd = x.snd) (k : Nat) : clean (x.o k) = x.o k := by
  cases k with
  | zero => exact h
  | succ k =>
    rw [Sp.o_succ]
    unfold Sp.sd Sp.side
    dsimp only
    split
    · rfl
    · exact clean_out _ _ _

/-- A link that the locus does not hit leaves what goes by. -/
theorem Sp.em_same (x : Sp) (a b : Int) (l : List UInt8) (hc : clean l = l) (h : hitsB x.c x.f (x.nd a) (x.nd b) = false ∨ x.f.To ≤ x.r) : x.em a b l = l := by
  unfold Sp.em emitL
  rw [if_pos h, hc]

theorem Sp.em_clean (x : Sp) (a b : Int) (l : List UInt8) : clean (x.em a b l) = x.em a b l := clean_idem _

/-- Compared: a front of both. -/
theorem out_pre (D S s : List UInt8) (h : frontB D s = true) : frontB (outL true D S) s = true :=
  front_trans (out_front D S) h
theorem out_pre2 (D S s : List UInt8) (h : frontB S s = true) : frontB (outL true D S) s = true :=
  front_trans (out_front2 D S) h
theorem front_nil (s : List UInt8) : frontB [] s = true := rfl
theorem front_refl (s : List UInt8) : frontB s s = true := by unfold frontB; rw [List.isPrefixOf_iff_prefix]; exact List.prefix_refl s

theorem guard_yes (c : Cf) (st dev : Int) (s : List UInt8) (h : admitB c st dev = true) : guardL c st dev s = s := by unfold guardL; rw [h]; rfl
theorem guard_no (c : Cf) (st dev : Int) (s : List UInt8) (h : admitB c st dev = false) : guardL c st dev s = [] := by unfold guardL; rw [h]; rfl
theorem guard_front (c : Cf) (st dev : Int) (s t : List UInt8) (h : frontB s t = true) : frontB (guardL c st dev s) t = true := by
  unfold guardL; split
  · exact h
  · exact front_nil t

/-- Where no link ahead is hit, and all are on, and the first one lets it in, all is passed on. -/
theorem Sp.calm (x : Sp) (m : Nat) (hp : x.pair = false) (hs : clean x.snd = x.snd) (hon : ∀ k : Nat, k < m → x.st (x.nd (k + 1)) ≠ 0) (hg : 0 < m → admitB x.c (x.st (x.nd 1)) (x.dv (x.nd 1)) = true)
    (h1 : ∀ k : Nat, k < m → hitsB x.c x.f (x.nd k) (x.nd (k + 1)) = false ∨ x.f.To ≤ x.r) (h2 : ∀ k : Nat, k + 1 < m → hitsB x.c x.f (x.nd k) (x.nd (k + 1 + 1)) = false ∨ x.f.To ≤ x.r) :
    ∀ k : Nat, k ≤ m → x.o k = x.snd := by
  intro k
  induction k using Nat.strongRecOn with
  | ind k ih =>
    intro hk
    match k with
    | 0 => rfl
    | 1 =>
      rw [Sp.o_succ, Sp.O_zero, if_neg (by have := hon 0 (by omega); simpa using this), hp, Sp.D_zero, guard_yes _ _ _ _ (hg (by omega)), outL_false, Sp.em_same x 0 1 _ hs (by have := h1 0 (by omega); simpa using this)]
      exact hs
    | k + 2 =>
      have e1 := ih (k + 1) (by omega) (by omega)
      have e2 := ih k (by omega) (by omega)
      have a1 := h1 (k + 1) (by omega)
      rw [Int.natCast_succ] at a1
      have a0 := hon (k + 1) (by omega)
      rw [Int.natCast_succ] at a0
      rw [Sp.o_succ, Sp.O_succ, if_neg a0, Sp.D_succ, Sp.S_succ, e1, e2, Sp.em_same x _ _ _ hs a1, Sp.em_same x _ _ _ hs (h2 k (by omega)), out_self]
      exact hs

end Plait
