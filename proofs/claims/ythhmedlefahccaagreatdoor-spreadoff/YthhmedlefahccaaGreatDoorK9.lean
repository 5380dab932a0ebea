/-
  Plain mathematics of the one locus, with no program in it: what is allowed, whom it hits, what it emits, how its clock seems.
-/
import Derived.Test.YthhmedlefahccaaGreatDoorK2
import Derived.Test.YthhmedlefahccaaGreatDoorK8
import Derived.Test.YthhmedlefahccaaGreatDoorK1
import Derived.Lib.SliceRun
import Derived.Test.YthhmedlefahccaaGreatDoorK3
import Derived.Test.YthhmedlefahccaaGreatDoorK5
namespace Plait

structure Ac where
  H : Int
  N : Int
  T : List UInt8
deriving Inhabited, DecidableEq

structure Fa where
  K : Int
  At : Int
  F : Int
  To : Int
  A : List Ac
  D : List Int

/-- How many places there are of a kind. -/
def placesI (c : Cf) (k : Int) : Int := if k = 1 then c.N else if k = 2 then 2 * c.N else 1
def knownL (f : Fa) : Bool := f.K == 0 || f.K == 1 || f.K == 2
def placeL (c : Cf) (f : Fa) : Bool := decide (0 ≤ f.At) && decide (f.At < placesI c f.K)
def roundsL (f : Fa) : Bool := decide (0 ≤ f.F) && decide (f.F ≤ f.To) && decide (f.To ≤ 1000)
def longA (a : Ac) : Bool := decide (1000 < a.T.length)
def longL (f : Fa) : Bool := decide ((40 : Int) < (f.A.length : Int)) || decide ((40 : Int) < (f.D.length : Int)) || f.A.any longA
def checkL (c : Cf) (f : Fa) : Int := if knownL f then if placeL c f && roundsL f then if longL f then 2 else 0 else 1 else 6

theorem checkL_k (c : Cf) (f : Fa) (h : knownL f = false) : checkL c f = 6 := by simp [checkL, h]
theorem checkL_p (c : Cf) (f : Fa) (h : knownL f = true) (h2 : (placeL c f && roundsL f) = false) : checkL c f = 1 := by unfold checkL; rw [h, h2]; rfl
theorem checkL_l (c : Cf) (f : Fa) (h : knownL f = true) (h2 : (placeL c f && roundsL f) = true) : checkL c f = if longL f then 2 else 0 := by unfold checkL; rw [h, h2]; rfl

/-- One that may be. -/
structure Fa.Ok (c : Cf) (f : Fa) : Prop where
  k : f.K = 0 ∨ f.K = 1 ∨ f.K = 2
  a0 : 0 ≤ f.At
  a1 : f.At < placesI c f.K
  f0 : 0 ≤ f.F
  f1 : f.F ≤ f.To
  t1 : f.To ≤ 1000
  lA : f.A.length ≤ 40
  lD : f.D.length ≤ 40
  texts : ∀ a ∈ f.A, a.T.length ≤ 1000

theorem Fa.Ok.check {c : Cf} {f : Fa} (h : f.Ok c) : checkL c f = 0 := by
  obtain ⟨k, a0, a1, f0, f1, t1, lA, lD, tx⟩ := h
  have e1 : knownL f = true := by unfold knownL; rcases k with k | k | k <;> simp [k]
  have e2 : (placeL c f && roundsL f) = true := by unfold placeL roundsL; simp; omega
  have e3 : longL f = false := by
    unfold longL
    have : f.A.any longA = false := by
      rw [List.any_eq_false]
      intro a ha
      have := tx a ha
      unfold longA
      simp; omega
    rw [this]
    simp; omega
  rw [checkL_l c f e1 e2, e3]
  rfl

def hitsB (c : Cf) (f : Fa) (a b : Int) : Bool := if f.K = 1 then f.At == a else if f.K = 2 then (linkI c.N a b).2 && (linkI c.N a b).1 == f.At else false
def atB (f : Fa) (i : Int) : Bool := f.K == 1 && f.At == i
def rightB (f : Fa) (r i : Int) : Bool := decide (f.To ≤ r) || !atB f i

/-- The frame of one that took nothing but null frames. -/
def freshF (c : Cf) (r s : Int) : Fr := ⟨3, wireI c r, s, ⟨1, 0⟩, if s < c.N then List.replicate (slotsI c).toNat ⟨1, 0⟩ else []⟩
def dataF (c : Cf) (r s : Int) (b : List UInt8) : Fr := if (readF c b).2 = 0 ∧ (readF c b).1.K = 3 then (readF c b).1 else freshF c r s
def payF (f : Fr) (n : Int) : Fr := { f with P := ⟨2, n % 256⟩ }
def echF (f : Fr) (n : Int) : Fr := { f with E := List.replicate f.E.length ⟨2, n % 256⟩ }
def turnedL (b : List UInt8) (n : Int) : List UInt8 := if b = [] then [] else clean (turn b (n % (b.length : Int)))
def actL (c : Cf) (a : Ac) (r s : Int) (b : List UInt8) : List UInt8 :=
  if a.H % 7 = 1 then b else if a.H % 7 = 2 then b.take (a.N % ((b.length : Int) + 1)).toNat else if a.H % 7 = 3 then clean a.T else if a.H % 7 = 4 then turnedL b a.N
  else if a.H % 7 = 5 then textF (payF (dataF c r s b) a.N) else if a.H % 7 = 6 then textF (echF (dataF c r s b) a.N) else []
def pickA (A : List Ac) (n : Int) : Ac := A.getD (n % (A.length : Int)).toNat default
def pickI (D : List Int) (n : Int) : Int := D.getD (n % (D.length : Int)).toNat 0
def emitL (c : Cf) (f : Fa) (r s a b : Int) (base : List UInt8) : List UInt8 :=
  if hitsB c f a b = false ∨ f.To ≤ r then base else if r < f.F ∨ f.A = [] then [] else actL c (pickA f.A (17 * r + 5 * s + b)) r s base
def clampI (w x : Int) : Int := max (-w) (min x w)
def devL (c : Cf) (f : Fa) (r o i dev : Int) : Int :=
  if r < f.F ∨ f.To ≤ r ∨ atB f o = false then dev else if f.D = [] then 0 else clampI (3 * windowI c) (pickI f.D (13 * r + i))

theorem readF_ok (c : Cf) (l : List UInt8) : (readF c l).1.Ok c ∨ (readF c l).1 = zeroF := by
  unfold readF
  split
  · exact .inr rfl
  · unfold readB
    split
    · exact .inr rfl
    · split
      · exact .inr rfl
      · split
        · exact .inr rfl
        · rename_i h4
          exact .inl (Fr.Ok.of (by simpa using h4))

theorem readF_ok3 {c : Cf} {l : List UInt8} (h3 : (readF c l).1.K = 3) : (readF c l).1.Ok c := by
  rcases readF_ok c l with h | h
  · exact h
  · rw [h] at h3; simp [zeroF] at h3

theorem freshF_ok (c : Cf) (r s : Int) (hc : c.Ok) (s0 : 0 ≤ s) (s1 : s < slotsI c) : (freshF c r s).Ok c where
  s0 := s0
  s1 := s1
  r0 := by show 0 ≤ wireI c r; unfold wireI; omega
  r1 := by show wireI c r < 65536; unfold wireI; omega
  k1 := by show (1 : Int) ≤ 3; omega
  k3 := by show (3 : Int) ≤ 3; omega
  kp := .inl rfl
  p := rfl
  pz := .inl rfl
  len := by
    have h6 := hc.n6
    show ((if s < c.N then List.replicate (slotsI c).toNat (⟨1, 0⟩ : It) else []).length : Int) = echoI c 3 s
    unfold echoI
    by_cases h : s < c.N
    · rw [if_pos h, if_pos ⟨rfl, h⟩, List.length_replicate]
      unfold slotsI; omega
    · rw [if_neg h, if_neg (by simp [h])]
      rfl
  all := by
    intro i hi
    change i ∈ (if s < c.N then List.replicate (slotsI c).toNat (⟨1, 0⟩ : It) else []) at hi
    split at hi
    · rw [List.eq_of_mem_replicate hi]; rfl
    · simp at hi

theorem dataF_ok (c : Cf) (r s : Int) (b : List UInt8) (hc : c.Ok) (s0 : 0 ≤ s) (s1 : s < slotsI c) : (dataF c r s b).Ok c ∧ (dataF c r s b).K = 3 := by
  unfold dataF
  split
  · rename_i h
    exact ⟨readF_ok3 h.2, h.2⟩
  · exact ⟨freshF_ok c r s hc s0 s1, rfl⟩

theorem payF_ok {c : Cf} {f : Fr} (h : f.Ok c) (hK : f.K = 3) (n : Int) : (payF f n).Ok c where
  s0 := h.s0
  s1 := h.s1
  r0 := h.r0
  r1 := h.r1
  k1 := h.k1
  k3 := h.k3
  kp := h.kp
  p := by
    show itemB ⟨2, n % 256⟩ (f.K == 3) = true
    unfold itemB
    simp
    omega
  pz := .inl hK
  len := h.len
  all := h.all

theorem echF_ok {c : Cf} {f : Fr} (h : f.Ok c) (n : Int) : (echF f n).Ok c where
  s0 := h.s0
  s1 := h.s1
  r0 := h.r0
  r1 := h.r1
  k1 := h.k1
  k3 := h.k3
  kp := h.kp
  p := h.p
  pz := h.pz
  len := by show ((List.replicate f.E.length (⟨2, n % 256⟩ : It)).length : Int) = _; rw [List.length_replicate]; exact h.len
  all := by
    intro i hi
    rw [List.eq_of_mem_replicate hi]
    unfold itemB
    simp
    omega

/-- The locus that the laws make of any one. -/
def cutA (a : Ac) : Ac := ⟨a.H, a.N, a.T.take 300⟩
def makeL (c : Cf) (f : Fa) : Fa :=
  ⟨f.K % 3, if f.K % 3 = 1 then f.At % c.N else if f.K % 3 = 2 then f.At % (2 * c.N) else 0, f.F % 60, f.F % 60 + f.To % 60, (f.A.take 10).map cutA, f.D.take 10⟩
def fewL (f : Fa) : Bool := f.A.all (fun a => decide (a.T.length ≤ 1200)) && decide (f.A.length ≤ 50) && decide (f.D.length ≤ 50)

/-- More than Ok: the numbers are small. -/
structure Fa.Small (c : Cf) (f : Fa) : Prop where
  ok : f.Ok c
  f60 : f.F < 60
  t119 : f.To < 119
  lA : f.A.length ≤ 10
  lD : f.D.length ≤ 10
  texts : ∀ a ∈ f.A, a.T.length ≤ 300

theorem makeL_small (c : Cf) (f : Fa) (hc : c.Ok) : (makeL c f).Small c := by
  have h6 := hc.n6
  have b1 := Int.emod_nonneg f.At (show c.N ≠ 0 by omega)
  have b2 := Int.emod_lt_of_pos f.At (show 0 < c.N by omega)
  have b3 := Int.emod_nonneg f.At (show 2 * c.N ≠ 0 by omega)
  have b4 := Int.emod_lt_of_pos f.At (show 0 < 2 * c.N by omega)
  have lA : ((f.A.take 10).map cutA).length ≤ 10 := by simp; omega
  have lD : (f.D.take 10).length ≤ 10 := by simp; omega
  have tx : ∀ a ∈ (f.A.take 10).map cutA, a.T.length ≤ 300 := by
    intro a ha
    obtain ⟨x, _, rfl⟩ := List.mem_map.1 ha
    unfold cutA
    simp; omega
  refine ⟨⟨?_, ?_, ?_, ?_, ?_, ?_, ?_, ?_, fun a ha => ?_⟩, ?_, ?_, lA, lD, tx⟩
  · show f.K % 3 = 0 ∨ f.K % 3 = 1 ∨ f.K % 3 = 2; omega
  · show 0 ≤ if f.K % 3 = 1 then f.At % c.N else if f.K % 3 = 2 then f.At % (2 * c.N) else 0
    split
    · omega
    · split <;> omega
  · show (if f.K % 3 = 1 then f.At % c.N else if f.K % 3 = 2 then f.At % (2 * c.N) else 0) < if f.K % 3 = 1 then c.N else if f.K % 3 = 2 then 2 * c.N else 1
    split
    · omega
    · split <;> omega
  · show 0 ≤ f.F % 60; omega
  · show f.F % 60 ≤ f.F % 60 + f.To % 60; omega
  · show f.F % 60 + f.To % 60 ≤ 1000; omega
  · exact Nat.le_trans lA (by omega)
  · exact Nat.le_trans lD (by omega)
  · exact Nat.le_trans (tx a ha) (by omega)
  · show f.F % 60 < 60; omega
  · show f.F % 60 + f.To % 60 < 119; omega

end Plait
/-
  Contracts of package ring, first part: steps round a ring, how far it is, a link's ends, the link between two nodes.
-/
namespace Go.Proofs.YthhmedlefahccaaGreatDoor
open Go.RowKit Plait
set_option maxRecDepth 100000
set_option linter.unusedVariables false

theorem gholds_any (n x : Int) (w : World) : Calls Tryz.prog 182 #[.int .i64 n, .int .i64 x] w fun e w' => e = .returned (.bool (nodeI n x)) ∧ w = w' := by
  have HF := Lib.hid (show (decide (0 ≤ x) && decide (x < n)) = nodeI n x from rfl)
  by_cases h : 0 ≤ x
  · go_enter Tryz.func182, Tryz.ntmps182
    go_wp2
    go_ret
    exact ⟨ret_bool (by rw [← HF.out]; simp [h]), rfl⟩
  · have hd : decide (0 ≤ x) = false := by simpa using h
    go_enter Tryz.func182, Tryz.ntmps182
    go_wp2
    go_ret
    exact ⟨ret_bool (by rw [← HF.out]; simp [hd]), rfl⟩

/-- The loop over the steps. -/
def StepAt (n : Int) (zs : List Int) (x i : Value) : Prop := ∃ k : Nat, k ≤ zs.length ∧ i = .int .i64 k ∧ x = .int .i64 (accI n (zs.take k))

set_option maxHeartbeats 1600000 in
theorem gat_any (n : Int) (a : Option Addr) (zs : List Int) (cap : Nat) (w : World) (hn : 0 < n) (hn2 : n ≤ 1099511627776) (hrow : Row w a zs) :
    Calls Tryz.prog 86 #[.int .i64 n, .slice a zs.length cap] w fun e w' => e = .returned (.int .i64 (zs.sum % n)) ∧ w = w' := by
  have hlen := hrow.1
  go_enter Tryz.func86, Tryz.ntmps86
  go_wp2
  go_loop [6, 8, 14] (fun x _ i => StepAt n zs x i) (fun _ _ i => zs.length - (intOf i).toNat)
  case atStart => exact ⟨0, Nat.zero_le _, rfl, by simp [accI]⟩
  case round =>
    obtain ⟨k, hk, rfl, rfl⟩ := hrel
    obtain ⟨b1, b2⟩ := accI_in n hn (zs.take k)
    by_cases hlt : k < zs.length
    · have d1 : decide (k < zs.length) = true := by simpa using hlt
      obtain ⟨b, off, rfl, hbl, hcell, hz1, hz2⟩ := hrow.get k hlt
      have HS := Lib.hid (accI_take n zs k hlt)
      obtain ⟨t1, t2⟩ := tmod_in zs[k] n hn
      generalize accI n (zs.take k) = x at *
      generalize zs[k] = z at *
      go_wp2
      go_round
      case rel => exact ⟨k + 1, by omega, by go_num, by rw [HS.out]⟩
      case measure => simp [intOf]; omega
    · have d1 : decide (k < zs.length) = false := by simpa using hlt
      have HE := Lib.hid (show accI n (zs.take k) % n = zs.sum % n by rw [List.take_of_length_le (by omega)]; exact accI_emod n zs)
      generalize accI n (zs.take k) = x at *
      by_cases hx : x < 0
      · have HF := Lib.hid (emod_neg n x b1 hx)
        go_wp2
        go_ret
        exact ⟨ret_int (by rw [HF.out, HE.out]), rfl⟩
      · have HF := Lib.hid (Int.emod_eq_of_lt (show 0 ≤ x by omega) b2)
        go_wp2
        go_ret
        exact ⟨ret_int (by rw [← HE.out, HF.out]), rfl⟩

theorem made2 (w : World) (x y : Int) (hx : inI x) (hy : inI y) : Row (w.alloc (.cells #[.int .i64 x, .int .i64 y] 3)) (some ⟨w.heap.size, 0, none⟩) [x, y] := Row.made w [x, y] _ (by simp) (by simp; exact ⟨hx, hy⟩)

theorem gAt_any (n i d : Int) (w : World) (hn : 0 < n) (hn2 : n ≤ 1099511627776) (hi : inI i) (hd : inI d) :
    Calls Tryz.prog 105 #[.int .i64 n, .int .i64 i, .int .i64 d] w fun e w' => e = .returned (.int .i64 ((i + d) % n)) ∧ Below w.heap.size w w' := by
  have HC := Lib.hid (gat_any n _ [i, d] 2 _ hn hn2 (made2 w i d hi hd))
  go_enter Tryz.func105, Tryz.ntmps105
  go_wp2_with fail
  refine HC.out.mono ?_
  rintro e wl ⟨rfl, rfl⟩
  go_wp2
  go_ret
  exact ⟨ret_int (by simp), alloc_below _ _⟩

theorem gup_any (n a b : Int) (w : World) (hn : 0 < n) (hn2 : n ≤ 1099511627776) (ha : inI a) (ha2 : inI (-a)) (hb : inI b) :
    Calls Tryz.prog 191 #[.int .i64 n, .int .i64 a, .int .i64 b] w fun e w' => e = .returned (.int .i64 ((b - a) % n)) ∧ Below w.heap.size w w' := by
  have HC := Lib.hid (gat_any n _ [b, -a] 2 _ hn hn2 (made2 w b (-a) hb ha2))
  have z1 : IntKind.i64.wrap (-a) = -a := wrap_in _ ha2.1 ha2.2
  go_enter Tryz.func191, Tryz.ntmps191
  go_wp2_with fail
  refine HC.out.mono ?_
  rintro e wl ⟨rfl, rfl⟩
  go_wp2
  go_ret
  exact ⟨ret_int (by rw [Int.sub_eq_add_neg]), alloc_below _ _⟩

theorem ret_pair {a b c d : Int} (h : a = c) (h' : b = d) : Ending.returned (.tuple #[.int .i64 a, .int .i64 b]) = .returned (.tuple #[.int .i64 c, .int .i64 d]) := by rw [h, h']
theorem ret_found {a : Int} {b : Bool} {p : Int × Bool} (h : p = (a, b)) : Ending.returned (.tuple #[.int .i64 a, .bool b]) = .returned (.tuple #[.int .i64 p.1, .bool p.2]) := by rw [h]

/-- The loop over both orders of two nodes: the second round is reached where the first one found nothing. -/
def LinkAt (n a b : Int) (w : World) (i : Value) (w' : World) : Prop :=
  ∃ k : Nat, i = .int .i64 k ∧ Below w.heap.size w w' ∧ (k = 0 ∨ k = 1 ∧ (b - a) % n ≠ 1 ∧ (b - a) % n ≠ 2 ∨ k = 2 ∧ (b - a) % n ≠ 1 ∧ (b - a) % n ≠ 2 ∧ (a - b) % n ≠ 1 ∧ (a - b) % n ≠ 2)

set_option maxHeartbeats 3200000 in
theorem gLink_any (n a b : Int) (w : World) (hn : 0 < n) (hn2 : n ≤ 1000000) (ha : inI a) (hb : inI b) :
    Calls Tryz.prog 190 #[.int .i64 n, .int .i64 a, .int .i64 b] w fun e w' => e = .returned (.tuple #[.int .i64 (linkI n a b).1, .bool (linkI n a b).2]) ∧ Below w.heap.size w w' := by
  cases h1 : nodeI n a
  · have H1 := Lib.hid h1
    have HF := Lib.hid (linkI_off n a b h1)
    clear h1
    go_enter Tryz.func190, Tryz.ntmps190
    go_wp2_with fail
    refine (gholds_any n a _).mono ?_
    rintro e wl ⟨rfl, rfl⟩
    rw [H1.out]
    go_wp2
    go_ret2
    exact ⟨ret_found HF.out, Below.refl _ _⟩
  · cases h2 : nodeI n b
    · have H1 := Lib.hid h1
      have H2 := Lib.hid h2
      have HF := Lib.hid (linkI_off2 n a b h2)
      clear h1 h2
      go_enter Tryz.func190, Tryz.ntmps190
      go_wp2_with fail
      refine (gholds_any n a _).mono ?_
      rintro e wl ⟨rfl, rfl⟩
      rw [H1.out]
      go_wp2_with fail
      refine (gholds_any n b _).mono ?_
      rintro e wl ⟨rfl, rfl⟩
      rw [H2.out]
      go_wp2
      go_ret2
      exact ⟨ret_found HF.out, Below.refl _ _⟩
    · have H1 := Lib.hid h1
      have H2 := Lib.hid h2
      obtain ⟨a0, a1⟩ : 0 ≤ a ∧ a < n := by unfold nodeI at h1; simpa using h1
      obtain ⟨b0, b1⟩ : 0 ≤ b ∧ b < n := by unfold nodeI at h2; simpa using h2
      clear h1 h2 ha hb
      have ia : inI a := ⟨by omega, by omega⟩
      have ib : inI b := ⟨by omega, by omega⟩
      have ja : inI (-a) := ⟨by omega, by omega⟩
      have jb : inI (-b) := ⟨by omega, by omega⟩
      have x0 : ∀ w : World, (Instr.index 215 (.agg #[.int .i64 a, .int .i64 b, .int .i64 b, .int .i64 a]) (.int .i64 0)).run Tryz.prog w = .ok (.agg #[.int .i64 a, .int .i64 b]) w := fun _ => by kernel_rfl
      have x1 : ∀ w : World, (Instr.index 215 (.agg #[.int .i64 a, .int .i64 b, .int .i64 b, .int .i64 a]) (.int .i64 1)).run Tryz.prog w = .ok (.agg #[.int .i64 b, .int .i64 a]) w := fun _ => by kernel_rfl
      go_enter Tryz.func190, Tryz.ntmps190
      go_wp2_with fail
      refine (gholds_any n a _).mono ?_
      rintro e wl ⟨rfl, rfl⟩
      rw [H1.out]
      go_wp2_with fail
      refine (gholds_any n b _).mono ?_
      rintro e wl ⟨rfl, rfl⟩
      rw [H2.out]
      go_wp2
      go_loopw [10, 29] (fun _ i w' => LinkAt n a b w i w') (fun _ i _ => 2 - (intOf i).toNat)
      case atStart => exact ⟨0, rfl, Below.refl _ _, .inl rfl⟩
      case round =>
        obtain ⟨k, rfl, hB, hk⟩ := hrel
        rcases hk with rfl | ⟨rfl, n1, n2⟩ | ⟨rfl, n1, n2, n3, n4⟩
        · by_cases e1 : (b - a) % n = 1
          · have HF := Lib.hid (linkI_1 n a b H1.out H2.out e1)
            have d1 : ((b - a) % n == 1) = true := by simpa using e1
            clear e1
            go_wp2_with fail
            refine (gup_any n a b _ hn (by omega) ia ja ib).mono ?_
            rintro e wn ⟨rfl, hb⟩
            obtain ⟨hb2, hK, hZ⟩ := boxed hb
            replace hB := hB.trans (hb2.mono hB.size)
            have hQ := hK.at
            clear hb hb2
            go_wp2
            go_ret2
            exact ⟨ret_found HF.out, hB⟩
          · by_cases e2 : (b - a) % n = 2
            · have HF := Lib.hid (linkI_2 n a b H1.out H2.out e2)
              have d1 : ((b - a) % n == 1) = false := by simpa using e1
              have d2 : ((b - a) % n == 2) = true := by simpa using e2
              clear e1 e2
              go_wp2_with fail
              refine (gup_any n a b _ hn (by omega) ia ja ib).mono ?_
              rintro e wn ⟨rfl, hb⟩
              obtain ⟨hb2, hK, hZ⟩ := boxed hb
              replace hB := hB.trans (hb2.mono hB.size)
              have hQ := hK.at
              clear hb hb2
              go_wp2
              go_ret2
              exact ⟨ret_found HF.out, hB⟩
            · have d1 : ((b - a) % n == 1) = false := by simpa using e1
              have d2 : ((b - a) % n == 2) = false := by simpa using e2
              go_wp2_with fail
              refine (gup_any n a b _ hn (by omega) ia ja ib).mono ?_
              rintro e wn ⟨rfl, hb⟩
              obtain ⟨hb2, hK, hZ⟩ := boxed hb
              replace hB := hB.trans (hb2.mono hB.size)
              have hQ := hK.at
              clear hb hb2
              go_wp2
              go_roundw
              case rel => exact ⟨1, by go_num, hB, .inr (.inl ⟨rfl, e1, e2⟩)⟩
              case measure => simp [intOf]
        · by_cases e1 : (a - b) % n = 1
          · have HF := Lib.hid (linkI_3 n a b H1.out H2.out n1 n2 e1)
            have d1 : ((a - b) % n == 1) = true := by simpa using e1
            clear e1
            go_wp2_with fail
            refine (gup_any n b a _ hn (by omega) ib jb ia).mono ?_
            rintro e wn ⟨rfl, hb⟩
            obtain ⟨hb2, hK, hZ⟩ := boxed hb
            replace hB := hB.trans (hb2.mono hB.size)
            have hQ := hK.at
            clear hb hb2
            go_wp2
            go_ret2
            exact ⟨ret_found HF.out, hB⟩
          · by_cases e2 : (a - b) % n = 2
            · have HF := Lib.hid (linkI_4 n a b H1.out H2.out n1 n2 e2)
              have d1 : ((a - b) % n == 1) = false := by simpa using e1
              have d2 : ((a - b) % n == 2) = true := by simpa using e2
              clear e1 e2
              go_wp2_with fail
              refine (gup_any n b a _ hn (by omega) ib jb ia).mono ?_
              rintro e wn ⟨rfl, hb⟩
              obtain ⟨hb2, hK, hZ⟩ := boxed hb
              replace hB := hB.trans (hb2.mono hB.size)
              have hQ := hK.at
              clear hb hb2
              go_wp2
              go_ret2
              exact ⟨ret_found HF.out, hB⟩
            · have d1 : ((a - b) % n == 1) = false := by simpa using e1
              have d2 : ((a - b) % n == 2) = false := by simpa using e2
              go_wp2_with fail
              refine (gup_any n b a _ hn (by omega) ib jb ia).mono ?_
              rintro e wn ⟨rfl, hb⟩
              obtain ⟨hb2, hK, hZ⟩ := boxed hb
              replace hB := hB.trans (hb2.mono hB.size)
              have hQ := hK.at
              clear hb hb2
              go_wp2
              go_roundw
              case rel => exact ⟨2, by go_num, hB, .inr (.inr ⟨rfl, n1, n2, e1, e2⟩)⟩
              case measure => simp [intOf]
        · have HF := Lib.hid (linkI_5 n a b H1.out H2.out n1 n2 n3 n4)
          go_wp2
          go_ret2
          exact ⟨ret_found HF.out, hB⟩

end Go.Proofs.YthhmedlefahccaaGreatDoor
/-
  Contracts of package ring, second part: who is among the owners, the walk round, what is struck out of it, ways.
-/
namespace Go.Proofs.YthhmedlefahccaaGreatDoor
open Go.RowKit Plait
set_option maxRecDepth 100000
set_option linter.unusedVariables false

/-- The loop of a search: none ahead of k. -/
def NoneTo (zs : List Int) (p : Int → Bool) (k : Nat) : Prop := ∀ j (h : j < zs.length), j < k → p zs[j] = false

/-- What a search answers. -/
def Found (zs : List Int) (p : Int → Bool) (r : Int) : Prop := (r = -1 ∧ NoneTo zs p zs.length) ∨ ∃ k : Nat, ∃ h : k < zs.length, r = (k : Int) ∧ p zs[k] = true ∧ NoneTo zs p k

theorem NoneTo.succ {zs : List Int} {p : Int → Bool} {k : Nat} (h : NoneTo zs p k) (hk : k < zs.length) (hp : p zs[k] = false) : NoneTo zs p (k + 1) := by
  intro j hj hlt
  by_cases e : j = k
  · subst e; exact hp
  · exact h j hj (by omega)

theorem found_inB (zs : List Int) (x r : Int) (h : Found zs (fun z => x == z) r) : decide (0 ≤ r) = inB zs x := by
  rcases h with ⟨rfl, h⟩ | ⟨k, hk, rfl, he, _⟩
  · have : inB zs x = false := by
      unfold inB
      rw [Bool.eq_false_iff]
      intro hc
      rw [List.contains_iff_mem] at hc
      obtain ⟨j, hj, e⟩ := List.getElem_of_mem hc
      have := h j hj hj
      simp [e] at this
    rw [this]; rfl
  · have : inB zs x = true := by
      unfold inB
      rw [List.contains_iff_mem, eq_of_beq he]
      exact List.getElem_mem hk
    rw [this]; simp

set_option maxHeartbeats 800000 in
theorem gindex_any (a : Option Addr) (zs : List Int) (cap : Nat) (x : Int) (w : World) (hrow : Row w a zs) :
    Calls Tryz.prog 97 #[.slice a zs.length cap, .int .i64 x] w fun e w' => (∃ r, e = .returned (.int .i64 r) ∧ Found zs (fun z => x == z) r) ∧ w = w' := by
  have hlen := hrow.1
  go_enter Tryz.func97, Tryz.ntmps97
  go_wp2
  go_loop [5, 8] (fun _ i => ∃ k : Nat, k ≤ zs.length ∧ i = .int .i64 k ∧ NoneTo zs (fun z => x == z) k) (fun _ i => zs.length - (intOf i).toNat)
  case atStart => exact ⟨0, Nat.zero_le _, rfl, fun j _ hj => absurd hj (by omega)⟩
  case round =>
    obtain ⟨k, hk, rfl, hno⟩ := hrel
    have HN := Lib.hid hno
    clear hno
    by_cases hlt : k < zs.length
    · have d1 : decide (k < zs.length) = true := by simpa using hlt
      obtain ⟨b, off, rfl, hbl, hcell, hz1, hz2⟩ := hrow.get k hlt
      by_cases hx : x = zs[k]
      · have d2 : (x == zs[k]) = true := by simp [← hx]
        have HF := Lib.hid (show Found zs (fun z => x == z) (k : Int) from .inr ⟨k, hlt, rfl, d2, HN.out⟩)
        clear hx
        go_wp2
        go_ret
        exact ⟨⟨_, rfl, HF.out⟩, rfl⟩
      · have d2 : (x == zs[k]) = false := by simp [hx]
        have HS := Lib.hid (HN.out.succ hlt d2)
        clear hx
        go_wp2
        go_round
        case rel => exact ⟨k + 1, by omega, by go_num, HS.out⟩
        case measure => simp [intOf]; omega
    · have d1 : decide (k < zs.length) = false := by simpa using hlt
      have HF := Lib.hid (show Found zs (fun z => x == z) (-1) from .inl ⟨rfl, fun j hj _ => HN.out j hj (by omega)⟩)
      go_wp2
      go_ret
      exact ⟨⟨_, rfl, HF.out⟩, rfl⟩

theorem gcontains_any (a : Option Addr) (zs : List Int) (cap : Nat) (x : Int) (w : World) (hrow : Row w a zs) :
    Calls Tryz.prog 87 #[.slice a zs.length cap, .int .i64 x] w fun e w' => e = .returned (.bool (inB zs x)) ∧ w = w' := by
  go_enter Tryz.func87, Tryz.ntmps87
  go_wp2_with fail
  refine (gindex_any a zs cap x _ hrow).mono ?_
  rintro e wl ⟨⟨r, rfl, hr⟩, rfl⟩
  have HF := Lib.hid (found_inB zs x r hr)
  clear hr
  go_wp2
  go_ret
  exact ⟨ret_bool HF.out, rfl⟩

theorem ghas_any (a : Option Addr) (zs : List Int) (cap : Nat) (x : Int) (w : World) (hrow : Row w a zs) :
    Calls Tryz.prog 76 #[.slice a zs.length cap, .int .i64 x] w fun e w' => e = .returned (.bool (inB zs x)) ∧ w = w' := by
  go_enter Tryz.func76, Tryz.ntmps76
  go_wp2_with fail
  refine (gcontains_any a zs cap x _ hrow).mono ?_
  rintro e wl ⟨rfl, rfl⟩
  go_wp2
  go_ret
  exact ⟨rfl, rfl⟩

theorem lastI_neg (zs : List Int) (d : Int) (h : d < 0) (hz : 0 < zs.length) : zs[0] = lastI zs d := by
  unfold lastI
  rw [if_pos h]
  cases zs with
  | nil => simp at hz
  | cons y r => rfl
theorem lastI_pos (zs : List Int) (d : Int) (h : ¬ d < 0) (hz : zs.length - 1 < zs.length) : zs[zs.length - 1] = lastI zs d := by
  unfold lastI
  rw [if_neg h, List.getLastD_eq_getLast?, List.getLast?_eq_getElem?, List.getElem?_eq_getElem hz]
  rfl

theorem glast_any (a : Option Addr) (zs : List Int) (cap : Nat) (d : Int) (w : World) (hrow : Row w a zs) (hz : 0 < zs.length) :
    Calls Tryz.prog 75 #[.slice a zs.length cap, .int .i64 d] w fun e w' => e = .returned (.int .i64 (lastI zs d)) ∧ w = w' := by
  have hlen := hrow.1
  by_cases h : d < 0
  · have HF := Lib.hid (lastI_neg zs d h hz)
    obtain ⟨b, off, rfl, hbl, hcell, hz1, hz2⟩ := hrow.get 0 hz
    rw [Nat.add_zero] at hcell
    go_enter Tryz.func75, Tryz.ntmps75
    go_wp2
    go_ret
    exact ⟨ret_int HF.out, rfl⟩
  · have hl : zs.length - 1 < zs.length := by omega
    have HF := Lib.hid (lastI_pos zs d h hl)
    have d1 : decide (d < 0) = false := by simpa using h
    obtain ⟨b, off, rfl, hbl, hcell, hz1, hz2⟩ := hrow.get (zs.length - 1) hl
    have z1 : IntKind.i64.wrap ((zs.length : Int) - 1) = ((zs.length - 1 : Nat) : Int) := by rw [wrap_in _ (by omega) (by omega)]; omega
    go_enter Tryz.func75, Tryz.ntmps75
    go_wp2
    go_ret
    exact ⟨ret_int HF.out, rfl⟩

/-- What a call answers that makes a row which it may yet write. -/
def OwnRet7 (zs : List Int) (w : World) (e : Ending) (w' : World) : Prop := ∃ v, e = .returned v ∧ OwnI w.heap.size w' v zs ∧ Below w.heap.size w w'

/-- The loop that gathers the walk. -/
def WalkAt (n f d : Int) (w : World) (v i : Value) (w' : World) : Prop :=
  ∃ k : Nat, (k : Int) + 1 ≤ n ∧ i = .int .i64 ((k : Int) + 1) ∧ Below w.heap.size w w' ∧ OwnI w.heap.size w' v (walkTo n f d k)

set_option maxHeartbeats 1600000 in
theorem gwalk_any (n f d : Int) (w : World) (h1 : 0 < n) (h2 : n ≤ 12) (hf : 0 ≤ f) (hf2 : f < n) (hd : d = 1 ∨ d = -1) :
    Calls Tryz.prog 74 #[.int .i64 n, .int .i64 f, .int .i64 d] w (OwnRet7 (walkTo n f d (n.toNat - 1)) w) := by
  go_enter Tryz.func74, Tryz.ntmps74
  go_wp2
  go_loopw [7, 8] (fun v i w' => WalkAt n f d w v i w') (fun _ i _ => 12 - (intOf i).toNat)
  case atStart => exact ⟨0, by omega, rfl, Below.refl _ _, OwnI.nil _ _⟩
  case round =>
    obtain ⟨k, hk, rfl, hb, hown⟩ := hrel
    by_cases hlt : (k : Int) + 1 < n
    · have d1 : decide ((k : Int) + 1 < n) = true := by simpa using hlt
      have HS := Lib.hid (walkTo_succ n f d k)
      have hvl : (walkTo n f d k).length ≤ 12 := by rw [walkTo_len]; omega
      obtain ⟨av, cv, rfl⟩ := hown.form
      have hol := hown.lt
      have hsz := hb.size
      have hm : -12 ≤ ((k : Int) + 1) * d ∧ ((k : Int) + 1) * d ≤ 12 := by rcases hd with rfl | rfl <;> omega
      obtain ⟨m1, m2⟩ := hm
      have z1 : wrap64 (((k : Int) + 1) * d) = ((k : Int) + 1) * d := IntWalk.wrap64_in _ ⟨by omega, by omega⟩
      have HC := Lib.hid (gat_any n _ [f, ((k : Int) + 1) * d] 2 _ h1 (by omega) (made2 wr f (((k : Int) + 1) * d) ⟨by omega, by omega⟩ ⟨by omega, by omega⟩))
      have HQ := Lib.hid (show [f, ((k : Int) + 1) * d].sum = f + ((k : Int) + 1) * d by simp)
      go_wp2_with fail
      refine HC.out.mono ?_
      rintro e wl ⟨rfl, rfl⟩
      rw [HQ.out]
      go_wp2_with (at_builtin; refine wpList_app1 _ rfl _ _ rfl w.heap.size (.slice av (walkTo n f d k).length cv) (walkTo n f d k) rfl ((hown.later (alloc_below _ _)).later (alloc_below _ _)) (wr.heap.size + 1) 1 ((f + ((k : Int) + 1) * d) % n) rfl (by simpa using heap_alloc_new (wr.alloc _) _) (by omega) (by simp; omega) ?_; intro g cap' w2 h1' h2' h3' h4')
      have hG : ∀ g, (Value.slice av (walkTo n f d k).length cv).ownBlock = some g → w.heap.size ≤ g := fun g hg => (hol g hg).1
      go_roundw
      case rel =>
        refine ⟨k + 1, by omega, by go_num, below_grown ((hb.alloc hb.size _).alloc (by simp; omega) _) (by simp; omega) h2' hG, ?_⟩
        rw [HS.out]
        exact h1'
      case measure => simp [intOf]; omega
    · have d1 : decide ((k : Int) + 1 < n) = false := by simpa using hlt
      have HE := Lib.hid (show walkTo n f d k = walkTo n f d (n.toNat - 1) by congr 1; omega)
      go_wp2
      go_ret
      exact ⟨_, rfl, HE.out ▸ hown, hb⟩

set_option maxHeartbeats 800000 in
theorem gindexFunc_any (a : Option Addr) (zs : List Int) (cap : Nat) (O : Option Addr) (os : List Int) (oc : Nat) (w : World) (hrow : Row w a zs) (ho : Row w O os) :
    Calls Tryz.prog 85 #[.slice a zs.length cap, .func (.func 76) #[.slice O os.length oc] #[]] w fun e w' => (∃ r, e = .returned (.int .i64 r) ∧ Found zs (inB os) r) ∧ w = w' := by
  have hlen := hrow.1
  go_enter Tryz.func85, Tryz.ntmps85
  go_wp2
  go_loop [5, 8] (fun _ i => ∃ k : Nat, k ≤ zs.length ∧ i = .int .i64 k ∧ NoneTo zs (inB os) k) (fun _ i => zs.length - (intOf i).toNat)
  case atStart => exact ⟨0, Nat.zero_le _, rfl, fun j _ hj => absurd hj (by omega)⟩
  case round =>
    obtain ⟨k, hk, rfl, hno⟩ := hrel
    have HN := Lib.hid hno
    clear hno
    by_cases hlt : k < zs.length
    · have d1 : decide (k < zs.length) = true := by simpa using hlt
      obtain ⟨b, off, rfl, hbl, hcell, hz1, hz2⟩ := hrow.get k hlt
      have HC := Lib.hid (ghas_any O os oc zs[k] w ho)
      cases hx : inB os zs[k]
      · have HS := Lib.hid (HN.out.succ hlt hx)
        have HX := Lib.hid hx
        clear hx
        go_wp2_with fail
        refine HC.out.mono ?_
        rintro e wl ⟨rfl, rfl⟩
        rw [HX.out]
        go_wp2
        go_round
        case rel => exact ⟨k + 1, by omega, by go_num, HS.out⟩
        case measure => simp [intOf]; omega
      · have HF := Lib.hid (show Found zs (inB os) (k : Int) from .inr ⟨k, hlt, rfl, hx, HN.out⟩)
        have HX := Lib.hid hx
        clear hx
        go_wp2_with fail
        refine HC.out.mono ?_
        rintro e wl ⟨rfl, rfl⟩
        rw [HX.out]
        go_wp2
        go_ret
        exact ⟨⟨_, rfl, HF.out⟩, rfl⟩
    · have d1 : decide (k < zs.length) = false := by simpa using hlt
      have HF := Lib.hid (show Found zs (inB os) (-1) from .inl ⟨rfl, fun j hj _ => HN.out j hj (by omega)⟩)
      go_wp2
      go_ret
      exact ⟨⟨_, rfl, HF.out⟩, rfl⟩

/-- Numbers at the start of a block that may be written. -/
def Lies (w : World) (g : Nat) (ys : List Int) : Prop := ∃ cs, Blk w g 3 cs ∧ ∀ i (h : i < ys.length), cs[i]? = some (.int .i64 ys[i])

theorem Lies.cell {w : World} {g : Nat} {ys : List Int} (h : Lies w g ys) (i : Nat) (hi : i < ys.length) : w.cell? ⟨g, i, none⟩ = some (.int .i64 ys[i]) := by
  obtain ⟨cs, hB, hc⟩ := h
  rw [hB.at, hc i hi]
theorem Lies.frozen {w : World} {g : Nat} {ys : List Int} (h : Lies w g ys) (i : Nat) : w.frozen? ⟨g, i, none⟩ = false := by
  obtain ⟨cs, hB, hc⟩ := h
  exact hB.frozen i
theorem Lies.lt {w : World} {g : Nat} {ys : List Int} (h : Lies w g ys) : g < w.heap.size := by
  obtain ⟨cs, hB, hc⟩ := h
  exact hB.lt
theorem Lies.set {w : World} {g : Nat} {ys : List Int} (h : Lies w g ys) (i : Nat) (x : Int) : Lies (w.setCell ⟨g, i, none⟩ (.int .i64 x)) g (ys.set i x) := by
  obtain ⟨cs, hB, hc⟩ := h
  refine ⟨_, hB.set i _, fun j hj => ?_⟩
  rw [List.length_set] at hj
  have hs := hc j hj
  obtain ⟨hlt, _⟩ := Array.getElem?_eq_some_iff.1 hs
  by_cases e : i = j
  · subst e
    rw [Array.getElem?_setIfInBounds_self_of_lt hlt]
    simp
  · rw [Array.getElem?_setIfInBounds_ne e, hs, List.getElem_set_ne e]
theorem Lies.take {w : World} {g : Nat} {ys : List Int} (h : Lies w g ys) (k : Nat) : Lies w g (ys.take k) := by
  obtain ⟨cs, hB, hc⟩ := h
  refine ⟨cs, hB, fun j hj => ?_⟩
  rw [List.length_take] at hj
  rw [List.getElem_take]
  exact hc j (by omega)
theorem Lies.row {w : World} {g : Nat} {ys : List Int} (h : Lies w g ys) (hl : ys.length ≤ 9223372036854775807) (hz : ∀ z ∈ ys, -9223372036854775808 ≤ z ∧ z ≤ 9223372036854775807) : Row w (some ⟨g, 0, none⟩) ys :=
  ⟨hl, hz, .inr ⟨g, 0, rfl, h.lt, fun i hi => by rw [Nat.zero_add]; exact h.cell i hi⟩⟩
theorem OwnI.lies {base : Nat} {w : World} {v : Value} {zs : List Int} (h : OwnI base w v zs) (hz : 0 < zs.length) : ∃ g cap, v = .slice (some ⟨g, 0, none⟩) zs.length cap ∧ zs.length ≤ cap ∧ cap ≤ maxLen ∧ base ≤ g ∧ Lies w g zs := by
  rcases h.2 with ⟨_, h0⟩ | ⟨g, cap, cur, hv, hg, hb, hcap, hmax, hsz, ht⟩
  · omega
  · refine ⟨g, cap, hv, hcap, hmax, hg, cur, hb, fun i hi => ?_⟩
    have e : (cur.toList.take (zs.length * 1))[i]? = (zs.map (Value.int .i64))[i]? := by rw [ht]
    rw [List.getElem?_take, if_pos (by omega)] at e
    simpa [hi] using e

/-- Behind the last kept number all is nought. -/
theorem setCells_lies (base : Nat) : ∀ (vs : List Value) (o : Nat) (w a : World) (g : Nat) (ys : List Int), base ≤ g → Below base a w → Lies w g ys → ys.length ≤ o → Below base a (w.setCells g o vs) ∧ Lies (w.setCells g o vs) g ys
  | [], _, _, _, _, _, _, hb, hl, _ => ⟨hb, hl⟩
  | v :: r, o, w, a, g, ys, hg, hb, hl, ho => by
    refine setCells_lies base r (o + 1) (w.setCell ⟨g, o, none⟩ v) a g ys hg (hb.setCell hg v) ?_ (by omega)
    obtain ⟨cs, hB, hc⟩ := hl
    refine ⟨_, hB.set o _, fun j hj => ?_⟩
    rw [Array.getElem?_setIfInBounds_ne (by omega)]
    exact hc j hj

/-- What the loop has kept: i of the first j. -/
structure Kept (zs os ys : List Int) (i j : Nat) : Prop where
  len : ys.length = zs.length
  lt : i < j
  le : j ≤ zs.length
  low : ys.take i = (zs.take j).filter fun x => !inB os x
  high : ys.drop j = zs.drop j

theorem filter_none (os : List Int) : ∀ (zs : List Int) (k : Nat), NoneTo zs (inB os) k → (zs.take k).filter (fun x => !inB os x) = zs.take k := by
  intro zs k h
  rw [List.filter_eq_self]
  intro x hx
  obtain ⟨j, hj, rfl⟩ := List.getElem_of_mem hx
  rw [List.length_take] at hj
  rw [List.getElem_take]
  simp [h j (by omega) (by omega)]

theorem Kept.start {zs os : List Int} {k : Nat} (hk : k < zs.length) (hp : inB os zs[k] = true) (hno : NoneTo zs (inB os) k) : Kept zs os zs k (k + 1) := by
  refine ⟨rfl, by omega, by omega, ?_, rfl⟩
  rw [List.take_succ_eq_append_getElem hk, List.filter_append, filter_none os zs k hno]
  simp [hp]
theorem Kept.at {zs os ys : List Int} {i j : Nat} (h : Kept zs os ys i j) (hj : j < zs.length) (hj' : j < ys.length) : ys[j] = zs[j] := by
  have e : (ys.drop j)[0]? = (zs.drop j)[0]? := by rw [h.high]
  rw [List.getElem?_drop, List.getElem?_drop, Nat.add_zero, List.getElem?_eq_getElem hj, List.getElem?_eq_getElem hj'] at e
  exact Option.some.inj e
theorem Kept.skip {zs os ys : List Int} {i j : Nat} (h : Kept zs os ys i j) (hj : j < zs.length) (hp : inB os zs[j] = true) : Kept zs os ys i (j + 1) := by
  refine ⟨h.len, by have := h.lt; omega, by omega, ?_, ?_⟩
  · rw [List.take_succ_eq_append_getElem hj, List.filter_append, ← h.low]
    simp [hp]
  · have e := congrArg (List.drop 1) h.high
    rw [List.drop_drop, List.drop_drop] at e
    exact e
theorem Kept.keep {zs os ys : List Int} {i j : Nat} (h : Kept zs os ys i j) (hj : j < zs.length) (hp : inB os zs[j] = false) : Kept zs os (ys.set i zs[j]) (i + 1) (j + 1) := by
  have h1 := h.lt
  have h2 := h.len
  refine ⟨by rw [List.length_set]; exact h.len, by omega, by omega, ?_, ?_⟩
  · rw [List.take_succ_eq_append_getElem hj, List.filter_append, ← h.low]
    rw [List.take_succ_eq_append_getElem (by rw [List.length_set]; omega), List.getElem_set_self, List.take_set_of_le (by omega)]
    simp [hp]
  · have e := congrArg (List.drop 1) h.high
    rw [List.drop_drop, List.drop_drop] at e
    rw [List.drop_set_of_lt (by omega)]
    exact e
theorem Kept.done {zs os ys : List Int} {i : Nat} (h : Kept zs os ys i zs.length) : ys.take i = zs.filter (fun x => !inB os x) ∧ i = (zs.filter fun x => !inB os x).length := by
  have e := h.low
  rw [List.take_of_length_le (Nat.le_refl _)] at e
  refine ⟨e, ?_⟩
  rw [← e, List.length_take]
  have := h.lt
  have := h.len
  omega

end Go.Proofs.YthhmedlefahccaaGreatDoor
/-
  Contracts of package ring, third part: the owners struck out of a walk; ways.
-/
namespace Go.Proofs.YthhmedlefahccaaGreatDoor
open Go.RowKit Plait
set_option maxRecDepth 100000
set_option linter.unusedVariables false

theorem Row.farCell {w : World} {a : Option Addr} {zs : List Int} (h : Row w a zs) {base g : Nat} (i : Nat) (u : Value) (hne : ∀ x, a = some x → x.block < base) (hg : base ≤ g) : Row (w.setCell ⟨g, i, none⟩ u) a zs :=
  h.far g i u fun x hx => by have := hne x hx; omega

/-- The loop that strikes out. -/
def StrikeAt (zs os : List Int) (O : Option Addr) (base g : Nat) (w : World) (a b : Value) (w' : World) : Prop :=
  ∃ (i j : Nat) (ys : List Int), a = .int .i64 i ∧ b = .int .i64 j ∧ Kept zs os ys i j ∧ Lies w' g ys ∧ Row w' O os ∧ Below base w w'

set_option maxHeartbeats 3200000 in
theorem gdelete_any (base : Nat) (v : Value) (zs : List Int) (O : Option Addr) (os : List Int) (oc : Nat) (w : World) (hown : OwnI base w v zs) (ho : Row w O os) (hO : ∀ x, O = some x → x.block < base) (hlen : zs.length ≤ 1000000) (hin : ∀ z ∈ zs, -9223372036854775808 ≤ z ∧ z ≤ 9223372036854775807) (hbase : base ≤ w.heap.size) :
    Calls Tryz.prog 73 #[v, .func (.func 76) #[.slice O os.length oc] #[]] w fun e w' =>
      ∃ (a : Option Addr) (cap : Nat), e = .returned (.slice a (zs.filter fun x => !inB os x).length cap) ∧ Row w' a (zs.filter fun x => !inB os x) ∧ (∀ x, a = some x → base ≤ x.block) ∧ Below base w w' := by
  obtain ⟨av, cv, rfl⟩ := hown.form
  have hrow := hown.row (by omega) hin
  have HI := Lib.hid (gindexFunc_any av zs cv O os oc w hrow ho)
  have HO := Lib.hid hown
  have HR := Lib.hid hrow
  clear hown hrow
  go_enter Tryz.func73, Tryz.ntmps73
  go_wp2_with fail
  refine HI.out.mono ?_
  rintro e wl ⟨⟨r, rfl, hr⟩, rfl⟩
  rcases hr with ⟨rfl, hno⟩ | ⟨k, hk, rfl, hp, hno⟩
  · have HF := Lib.hid (show (zs.filter fun x => !inB os x) = zs by have := filter_none os zs zs.length hno; rwa [List.take_of_length_le (Nat.le_refl _)] at this)
    clear hno
    go_wp2
    go_ret
    refine ⟨av, cv, by rw [HF.out]; rfl, by rw [HF.out]; exact HR.out, fun x hx => ?_, Below.refl _ _⟩
    exact (HO.out.lt x.block (by rw [hx]; rfl)).1
  · obtain ⟨g, cap, hv, hcap, hmax, hg, hl⟩ := HO.out.lies (by omega)
    obtain ⟨rfl, rfl⟩ : av = some ⟨g, 0, none⟩ ∧ cv = cap := by injection hv with h1 h2 h3; exact ⟨h1, h3⟩
    have HK := Lib.hid (Kept.start hk hp hno)
    have d0 : ((k : Int) == -1) = false := by rw [beq_eq_false_iff_ne]; omega
    clear hp hno hv
    go_wp2
    go_loopw [5, 6, 7] (fun a b _ w' => StrikeAt zs os O base g w a b w') (fun _ b _ _ => zs.length - (intOf b).toNat)
    case atStart => exact ⟨k, k + 1, zs, rfl, by go_num, HK.out, hl, ho, Below.refl _ _⟩
    case round =>
      obtain ⟨i, j, ys, rfl, rfl, hkept, hlies, hor, hb⟩ := hrel
      have KK := Lib.hid hkept
      have LL := Lib.hid hlies
      have l1 := hkept.lt; have l2 := hkept.le; have l3 := hkept.len
      by_cases hlt : j < zs.length
      · have d1 : decide (j < zs.length) = true := by simpa using hlt
        have hj : j < ys.length := by omega
        have c1 := hlies.cell j hj
        obtain ⟨old, c2⟩ : ∃ old, wr.cell? ⟨g, i, none⟩ = some (.int .i64 old) := ⟨_, hlies.cell i (by omega)⟩
        have f2 := hlies.frozen i
        rw [hkept.at hlt hj] at c1
        have HC := Lib.hid (ghas_any O os oc zs[j] wr hor)
        have HH := Lib.hid (fun h => KK.out.keep hlt h)
        have HS := Lib.hid (fun h => KK.out.skip hlt h)
        have LX := Lib.hid (LL.out.set i zs[j])
        clear hkept hlies l3
        cases hx : inB os zs[j]
        · have HX := Lib.hid hx
          clear hx
          go_wp2_with fail
          refine HC.out.mono ?_
          rintro e wl ⟨rfl, rfl⟩
          rw [HX.out]
          go_wp2
          go_roundw
          case rel => exact ⟨i + 1, j + 1, ys.set i zs[j], by go_num, by go_num, HH.out HX.out, LX.out, hor.farCell i _ hO hg, hb.setCell hg _⟩
          case measure => simp [intOf]; omega
        · have HX := Lib.hid hx
          clear hx
          go_wp2_with fail
          refine HC.out.mono ?_
          rintro e wl ⟨rfl, rfl⟩
          rw [HX.out]
          go_wp2
          go_roundw
          case rel => exact ⟨i, j + 1, ys, rfl, by go_num, HS.out HX.out, LL.out, hor, hb⟩
          case measure => simp [intOf]; omega
      · obtain rfl : j = zs.length := by omega
        have d1 : decide (zs.length < zs.length) = false := by simp
        obtain ⟨q1, q2⟩ := KK.out.done
        have Q1 := Lib.hid q1
        have Q2 := Lib.hid q2
        have hcl : ∀ ty, (Builtin.clear_ #[22] ty #[.slice (some ⟨g, i, none⟩) (zs.length - i) (cv - i)]).run Tryz.prog wr = .ok (.tuple #[]) (wr.setCells g i (List.replicate (zs.length - i) (.int .i64 0))) :=
          fun ty => Lib.run_clear_slice wr _ _ ty _ Tryz.underlying22 Tryz.zeroValue3 rfl rfl g i _ _ (by omega) (fun t ht => by rw [LL.out.cell (i + t) (by omega)]; rfl) (fun t ht => LL.out.frozen _)
        have HL := Lib.hid (setCells_lies base (List.replicate (zs.length - i) (.int .i64 0)) i wr w g (ys.take i) hg hb (LL.out.take i) (by rw [List.length_take]; omega))
        clear hkept hlies l3 q1 q2
        generalize wr.setCells g i (List.replicate (zs.length - i) (.int .i64 0)) = wz at *
        go_wp2
        go_ret
        obtain ⟨m1, m2⟩ := HL.out
        rw [Q1.out] at m2
        refine ⟨_, _, by rw [← Q2.out]; rfl, m2.row ?_ ?_, fun x hx => by injection hx with hx; rw [← hx]; exact hg, m1⟩
        · rw [← Q2.out]; omega
        · intro z hz
          exact hin z ((List.mem_filter.1 hz).1)

theorem lastI_in (n : Int) (os : List Int) (d : Int) (h : 0 < os.length) (ho : ∀ z ∈ os, 0 ≤ z ∧ z < n) : 0 ≤ lastI os d ∧ lastI os d < n := by
  by_cases hd : d < 0
  · rw [← lastI_neg os d hd h]
    exact ho _ (List.getElem_mem h)
  · have hl : os.length - 1 < os.length := by omega
    rw [← lastI_pos os d hd hl]
    exact ho _ (List.getElem_mem hl)

set_option maxHeartbeats 1600000 in
theorem gWay_any (n : Int) (O : Option Addr) (os : List Int) (oc : Nat) (d : Int) (w : World) (h1 : 0 < n) (h2 : n ≤ 12) (hd : d = 1 ∨ d = -1) (ho : Row w O os) (hO : ∀ x, O = some x → x.block < w.heap.size) (hos : ∀ z ∈ os, 0 ≤ z ∧ z < n) :
    Calls Tryz.prog 60 #[.int .i64 n, .slice O os.length oc, .int .i64 d] w (RowRet (wayI n os d) w) := by
  have hlen := ho.1
  rcases Nat.eq_zero_or_pos os.length with h0 | h0
  · have e := List.eq_nil_of_length_eq_zero h0
    have HF := Lib.hid (show wayI n os d = [] by unfold wayI; rw [if_pos e])
    clear e
    have d0 : ((os.length : Int) == 0) = true := by rw [h0]; rfl
    clear h0
    go_enter Tryz.func60, Tryz.ntmps60
    go_wp2
    go_ret
    exact ⟨none, 0, by rw [HF.out]; rfl, by rw [HF.out]; exact Row.empty _ _, (fun x h => by cases h), Below.refl _ _⟩
  · have HF := Lib.hid (show wayI n os d = (walkTo n (lastI os d) d (n.toNat - 1)).filter fun x => !inB os x by unfold wayI; rw [if_neg (by intro e; rw [e] at h0; simp at h0)])
    have d0 : ((os.length : Int) == 0) = false := by rw [beq_eq_false_iff_ne]; omega
    have d1 : decide (12 < n) = false := by simpa using h2
    obtain ⟨l1, l2⟩ := lastI_in n os d h0 hos
    have HL := Lib.hid (glast_any O os oc d w ho h0)
    have HB1 := Lib.hid (walkTo_in n (lastI os d) d (n.toNat - 1) h1)
    have HB2 := Lib.hid (walkTo_len n (lastI os d) d (n.toNat - 1))
    generalize lastI os d = f at *
    go_enter Tryz.func60, Tryz.ntmps60
    go_wp2_with fail
    refine HL.out.mono ?_
    rintro e wl ⟨rfl, rfl⟩
    go_wp2_with fail
    refine (gwalk_any n f d _ h1 h2 l1 l2 hd).mono ?_
    rintro e wn ⟨v, rfl, hown, hb⟩
    have HD := Lib.hid (gdelete_any w.heap.size v _ O os oc wn hown (ho.later hb) hO (by rw [HB2.out]; omega) (fun z hz => by have := HB1.out z hz; omega) hb.size)
    go_wp2_with fail
    refine HD.out.mono ?_
    rintro e wm ⟨a, cap, rfl, hr, ha, hb2⟩
    go_wp2
    go_ret
    exact ⟨a, cap, by rw [HF.out]; rfl, by rw [HF.out]; exact hr, ha, hb.trans hb2⟩

end Go.Proofs.YthhmedlefahccaaGreatDoor
/-
  Contracts of plaitingref4: what the document's own chapter 4 answers of rings.
-/
namespace Go.Proofs.YthhmedlefahccaaGreatDoor
open Go.RowKit Plait
set_option maxRecDepth 100000
set_option linter.unusedVariables false

theorem rrest_any (a n : Int) (w : World) (hn : 0 < n) (hn2 : n ≤ 1099511627776) :
    Calls Tryz.prog 50 #[.int .i64 a, .int .i64 n] w fun e w' => e = .returned (.int .i64 (a % n)) ∧ w = w' := by
  have b1 : 0 ≤ a % n := Int.emod_nonneg _ (by omega)
  have b2 : a % n < n := Int.emod_lt_of_pos _ hn
  by_cases h0 : 0 ≤ a
  · go_enter Tryz.func50, Tryz.ntmps50
    go_wp2
    go_ret
    exact ⟨rfl, rfl⟩
  · have h1 : a.tmod n = -((-a) % n) := by
      rw [show a = -(-a) by omega, Int.neg_tmod, Int.tmod_eq_emod_of_nonneg (by omega)]; simp
    have c1 : 0 ≤ (-a) % n := Int.emod_nonneg _ (by omega)
    have c2 : (-a) % n < n := Int.emod_lt_of_pos _ hn
    by_cases hz : (-a) % n = 0
    · have h2 : a.tmod n = 0 := by rw [h1, hz]; rfl
      have HF := Lib.hid (show (0 : Int) = a % n by
        have : n ∣ -a := Int.dvd_of_emod_eq_zero hz
        exact (Int.emod_eq_zero_of_dvd (Int.dvd_neg.1 this)).symm)
      clear h1 hz c1 c2 b1 b2
      go_enter Tryz.func50, Tryz.ntmps50
      go_wp2
      go_ret
      exact ⟨ret_int HF.out, rfl⟩
    · obtain ⟨r, hr⟩ : ∃ r, r = (-a) % n := ⟨_, rfl⟩
      rw [← hr] at h1 c1 c2 hz
      have HF := Lib.hid (show -r + n = a % n by
        have e := Int.emod_add_mul_ediv (-a) n
        rw [← hr] at e
        have e2 : a = (-r + n) + n * (-((-a) / n) - 1) := by rw [Int.mul_sub, Int.mul_neg]; omega
        rw [e2, Int.add_mul_emod_self_left]
        exact (Int.emod_eq_of_lt (by omega) (by omega)).symm)
      clear hr b1 b2
      go_enter Tryz.func50, Tryz.ntmps50
      go_wp2
      go_ret
      exact ⟨ret_int HF.out, rfl⟩

theorem rAt_any (n i d : Int) (w : World) (hn : 0 < n) (hn2 : n ≤ 1099511627776) (h1 : -4611686018427387904 ≤ i) (h2 : i ≤ 4611686018427387903) (h3 : -4611686018427387904 ≤ d) (h4 : d ≤ 4611686018427387903) :
    Calls Tryz.prog 26 #[.int .i64 n, .int .i64 i, .int .i64 d] w fun e w' => e = .returned (.int .i64 ((i + d) % n)) ∧ w = w' := by
  go_enter Tryz.func26, Tryz.ntmps26
  go_wp2_with fail
  refine (rrest_any (i + d) n _ hn hn2).mono ?_
  rintro e wl ⟨rfl, rfl⟩
  go_wp2
  go_ret
  exact ⟨rfl, rfl⟩

theorem rDist_any (n a b d : Int) (w : World) (hn : 0 < n) (hn2 : n ≤ 1099511627776) (h1 : -1099511627776 ≤ a) (h2 : a ≤ 1099511627776) (h3 : -1099511627776 ≤ b) (h4 : b ≤ 1099511627776) (hd : d = 1 ∨ d = -1) :
    Calls Tryz.prog 34 #[.int .i64 n, .int .i64 a, .int .i64 b, .int .i64 d] w fun e w' => e = .returned (.int .i64 (distI n a b d)) ∧ w = w' := by
  rcases hd with rfl | rfl
  · have HF := Lib.hid (show (b - a) % n = distI n a b 1 by unfold distI; rw [if_neg (by omega)])
    go_enter Tryz.func34, Tryz.ntmps34
    go_wp2_with fail
    refine (rrest_any _ n _ hn hn2).mono ?_
    rintro e wl ⟨rfl, rfl⟩
    go_wp2
    go_ret
    exact ⟨ret_int HF.out, rfl⟩
  · have HF := Lib.hid (show (a - b) % n = distI n a b (-1) by unfold distI; rw [if_pos (by omega)])
    go_enter Tryz.func34, Tryz.ntmps34
    go_wp2_with fail
    refine (rrest_any _ n _ hn hn2).mono ?_
    rintro e wl ⟨rfl, rfl⟩
    go_wp2
    go_ret
    exact ⟨ret_int (by rw [← HF.out]; congr 1; omega), rfl⟩

theorem rEnds_any (n l : Int) (w : World) (hn : 0 < n) (hn2 : n ≤ 1099511627776) (hl : 0 ≤ l) (hl2 : l ≤ 1099511627776) :
    Calls Tryz.prog 49 #[.int .i64 n, .int .i64 l] w fun e w' => e = .returned (.tuple #[.int .i64 (endA n l), .int .i64 (endB n l)]) ∧ Below w.heap.size w w' := by
  by_cases h : l < n
  · have HA := Lib.hid (show l = endA n l by unfold endA; rw [if_pos h])
    have HB := Lib.hid (show (l + 1) % n = endB n l by unfold endB; rw [if_pos h])
    have d1 : decide (l < n) = true := by simpa using h
    go_enter Tryz.func49, Tryz.ntmps49
    go_wp2
    go_quiet (fail)
    go_wp2
    go_ret2
    exact ⟨ret_pair HA.out HB.out, below_drewN (Below.refl _ _) _⟩
  · have HA := Lib.hid (show l - n = endA n l by unfold endA; rw [if_neg h])
    have HB := Lib.hid (show (l - n + 2) % n = endB n l by unfold endB; rw [if_neg h])
    have d1 : decide (l < n) = false := by simpa using h
    go_enter Tryz.func49, Tryz.ntmps49
    go_wp2
    go_quiet (fail)
    go_wp2
    go_ret2
    exact ⟨ret_pair HA.out HB.out, below_drewN (Below.refl _ _) _⟩

/-- The loop that looks for a link. -/
def RLinkAt (n a b : Int) (w : World) (i : Value) (w' : World) : Prop := ∃ k : Nat, (k : Int) ≤ 2 * n ∧ i = .int .i64 k ∧ Below w.heap.size w w' ∧ ∀ j : Nat, j < k → joins n a b j = false

set_option maxHeartbeats 3200000 in
theorem rLink_any (n a b : Int) (w : World) (h1 : 6 ≤ n) (h2 : n ≤ 12) :
    Calls Tryz.prog 25 #[.int .i64 n, .int .i64 a, .int .i64 b] w fun e w' => e = .returned (.tuple #[.int .i64 (linkI n a b).1, .bool (linkI n a b).2]) ∧ Below w.heap.size w w' := by
  have HE := Lib.hid (linkI_linkR n a b h1 h2)
  go_enter Tryz.func25, Tryz.ntmps25
  go_wp2
  go_loopw [8, 9, 10] (fun i _ _ w' => RLinkAt n a b w i w') (fun i _ _ _ => 24 - (intOf i).toNat)
  case atStart => exact ⟨0, by omega, rfl, Below.refl _ _, fun j hj => absurd hj (by omega)⟩
  case round =>
    obtain ⟨k, hk, rfl, hb, hno⟩ := hrel
    have HN := Lib.hid hno
    clear hno
    by_cases hlt : (k : Int) < 2 * n
    · have d1 : decide ((k : Int) < 2 * n) = true := by simpa using hlt
      go_wp2_with fail
      refine (rEnds_any n k _ (by omega) (by omega) (by omega) (by omega)).mono ?_
      rintro e wn ⟨rfl, hb2⟩
      replace hb := hb.trans (hb2.mono hb.size)
      clear hb2
      have HJ := Lib.hid (show joins n a b k = (endA n k == a && endB n k == b || endA n k == b && endB n k == a) from rfl)
      generalize endA n k = x at *
      generalize endB n k = y at *
      have yes : (x == a && y == b || x == b && y == a) = true → linkI n a b = ((k : Int), true) := fun h => by rw [HE.out]; exact linkR_hit n a b k hlt (by rw [HJ.out]; exact h) HN.out
      have no : (x == a && y == b || x == b && y == a) = false → ∀ j : Nat, j < k + 1 → joins n a b j = false := fun h j hj => by
        by_cases e : j = k
        · rw [e, HJ.out]; exact h
        · exact HN.out j (by omega)
      have Y := Lib.hid yes
      have O := Lib.hid no
      clear yes no
      cases c1 : (x == a) <;> cases c2 : (y == b) <;> cases c3 : (x == b) <;> cases c4 : (y == a)
      all_goals (rw [c1, c2, c3, c4] at Y O)
      all_goals first
        | (have HF := Lib.hid (Y.out rfl)
           clear Y O
           go_wp2
           go_ret2
           exact ⟨ret_found HF.out, hb⟩)
        | (have HF := Lib.hid (O.out rfl)
           clear Y O
           go_wp2
           go_roundw
           case rel => exact ⟨k + 1, by omega, by go_num, hb, HF.out⟩
           case measure => simp [intOf]; omega)
    · have d1 : decide ((k : Int) < 2 * n) = false := by simpa using hlt
      have HF := Lib.hid (show linkI n a b = (0, false) by rw [HE.out]; exact linkR_none n a b fun j hj => HN.out j (by omega))
      go_wp2
      go_ret2
      exact ⟨ret_found HF.out, hb⟩

/-- The loop that gathers a way. -/
def RWayAt (n f d : Int) (m : Nat) (w : World) (v i : Value) (w' : World) : Prop :=
  ∃ k : Nat, k ≤ m ∧ i = .int .i64 ((k : Int) + 1) ∧ Below w.heap.size w w' ∧ OwnI w.heap.size w' v (walkTo n f d k)

set_option maxHeartbeats 1600000 in
theorem rWay_any (n : Int) (O : Option Addr) (os : List Int) (oc : Nat) (d : Int) (w : World) (h1 : 0 < n) (h2 : n ≤ 12) (hd : d = 1 ∨ d = -1) (ho : Row w O os) (h0 : 0 < os.length) (hl : (os.length : Int) ≤ n) (hos : ∀ z ∈ os, 0 ≤ z ∧ z < n) :
    Calls Tryz.prog 41 #[.int .i64 n, .slice O os.length oc, .int .i64 d] w (RowRet (wayR n os d) w) := by
  have hlen := ho.1
  have HF := Lib.hid (show wayR n os d = walkTo n (lastI os d) d (n.toNat - os.length) by unfold wayR; rw [if_neg (by intro e; rw [e] at h0; simp at h0)])
  have d0 : ((os.length : Int) == 0) = false := by rw [beq_eq_false_iff_ne]; omega
  obtain ⟨l1, l2⟩ := lastI_in n os d h0 hos
  have HN := Lib.hid (show (n - (os.length : Int)) = ((n.toNat - os.length : Nat) : Int) by omega)
  have hm : n.toNat - os.length ≤ 12 := by omega
  have z0 : IntKind.i64.wrap (n - (os.length : Int)) = n - (os.length : Int) := wrap_in _ (by omega) (by omega)
  have hfirst : ∃ b off, O = some ⟨b, off, none⟩ ∧ b < w.heap.size ∧ w.cell? ⟨b, off, none⟩ = some (.int .i64 os[0]) ∧ w.cell? ⟨b, off + (os.length - 1), none⟩ = some (.int .i64 (os[os.length - 1])) := by
    rcases ho.2.2 with e | ⟨b, off, e, hb, hc⟩
    · rw [e] at h0; simp at h0
    · exact ⟨b, off, e, hb, hc 0 h0, hc (os.length - 1) (by omega)⟩
  obtain ⟨b, off, rfl, hbl, c1, c2⟩ := hfirst
  have z1 : IntKind.i64.wrap ((os.length : Int) - 1) = ((os.length - 1 : Nat) : Int) := by rw [wrap_in _ (by omega) (by omega)]; omega
  have hl : os.length - 1 < os.length := by omega
  have L1 := Lib.hid (fun h => lastI_neg os d h h0)
  have L2 := Lib.hid (fun h => lastI_pos os d h hl)
  generalize lastI os d = f at *
  generalize os[0] = y0 at *
  generalize os[os.length - 1] = y1 at *
  generalize hM : n.toNat - os.length = m at *
  clear hM
  rcases hd with rfl | rfl
  · have e1 : y1 = f := L2.out (by omega)
    subst e1
    clear L1 L2
    go_enter Tryz.func41, Tryz.ntmps41
    go_wp2
    go_loopw [8, 9] (fun v i w' => RWayAt n y1 1 m w v i w') (fun _ i _ => 13 - (intOf i).toNat)
    case atStart => exact ⟨0, by omega, rfl, Below.refl _ _, OwnI.nil _ _⟩
    case round =>
      obtain ⟨k, hk, rfl, hb, hown⟩ := hrel
      have c3 : ((n - (os.length : Int))) = (m : Int) := HN.out
      by_cases hlt : k < m
      · have d1 : decide ((k : Int) + 1 ≤ n - (os.length : Int)) = true := by rw [c3]; simp; omega
        clear c3
        have HS := Lib.hid (show walkTo n y1 1 (k + 1) = walkTo n y1 1 k ++ [(y1 + ((k : Int) + 1)) % n] by rw [walkTo_succ]; congr 3; omega)
        have hvl : (walkTo n y1 1 k).length ≤ 12 := by rw [walkTo_len]; omega
        obtain ⟨av, cv, rfl⟩ := hown.form
        have hol := hown.lt
        have hsz := hb.size
        go_wp2_with fail
        refine (rAt_any n y1 _ _ h1 (by omega) (by omega) (by omega) (by omega) (by omega)).mono ?_
        rintro e wl ⟨rfl, rfl⟩
        go_wp2_with (at_builtin; refine wpList_app1 _ rfl _ _ rfl w.heap.size (.slice av (walkTo n y1 1 k).length cv) (walkTo n y1 1 k) rfl (hown.later (alloc_below _ _)) wr.heap.size 1 _ rfl (heap_alloc_new _ _) (by omega) (by simp; omega) ?_; intro g cap' w2 h1' h2' h3' h4')
        have hG : ∀ g, (Value.slice av (walkTo n y1 1 k).length cv).ownBlock = some g → w.heap.size ≤ g := fun g hg => (hol g hg).1
        go_roundw
        case rel =>
          refine ⟨k + 1, by omega, by go_num, below_grown (hb.alloc hb.size _) (by simp; omega) h2' hG, ?_⟩
          rw [HS.out]
          exact h1'
        case measure => simp [intOf]; omega
      · have d1 : decide ((k : Int) + 1 ≤ n - (os.length : Int)) = false := by rw [c3]; simp; omega
        clear c3
        have HE := Lib.hid (show walkTo n y1 1 k = walkTo n y1 1 m by congr 1; omega)
        obtain ⟨av, cv, rfl⟩ := hown.form
        rw [HE.out] at hown
        go_wp2
        go_ret
        refine ⟨av, cv, by rw [HF.out, HE.out]; rfl, ?_, ?_, hb⟩
        · rw [HF.out]
          exact hown.row (by rw [walkTo_len]; omega) (fun z hz => by have := walkTo_in n y1 1 m h1 z hz; omega)
        · intro x hx
          exact (hown.lt x.block (by rw [hx]; rfl)).1
  · have e1 : y0 = f := L1.out (by omega)
    subst e1
    clear L1 L2
    go_enter Tryz.func41, Tryz.ntmps41
    go_wp2
    go_loopw [8, 9] (fun v i w' => RWayAt n y0 (-1) m w v i w') (fun _ i _ => 13 - (intOf i).toNat)
    case atStart => exact ⟨0, by omega, rfl, Below.refl _ _, OwnI.nil _ _⟩
    case round =>
      obtain ⟨k, hk, rfl, hb, hown⟩ := hrel
      have c3 : ((n - (os.length : Int))) = (m : Int) := HN.out
      by_cases hlt : k < m
      · have d1 : decide ((k : Int) + 1 ≤ n - (os.length : Int)) = true := by rw [c3]; simp; omega
        clear c3
        have HS := Lib.hid (show walkTo n y0 (-1) (k + 1) = walkTo n y0 (-1) k ++ [(y0 + -((k : Int) + 1)) % n] by rw [walkTo_succ]; congr 3; omega)
        have hvl : (walkTo n y0 (-1) k).length ≤ 12 := by rw [walkTo_len]; omega
        obtain ⟨av, cv, rfl⟩ := hown.form
        have hol := hown.lt
        have hsz := hb.size
        go_wp2_with fail
        refine (rAt_any n y0 _ _ h1 (by omega) (by omega) (by omega) (by omega) (by omega)).mono ?_
        rintro e wl ⟨rfl, rfl⟩
        go_wp2_with (at_builtin; refine wpList_app1 _ rfl _ _ rfl w.heap.size (.slice av (walkTo n y0 (-1) k).length cv) (walkTo n y0 (-1) k) rfl (hown.later (alloc_below _ _)) wr.heap.size 1 _ rfl (heap_alloc_new _ _) (by omega) (by simp; omega) ?_; intro g cap' w2 h1' h2' h3' h4')
        have hG : ∀ g, (Value.slice av (walkTo n y0 (-1) k).length cv).ownBlock = some g → w.heap.size ≤ g := fun g hg => (hol g hg).1
        go_roundw
        case rel =>
          refine ⟨k + 1, by omega, by go_num, below_grown (hb.alloc hb.size _) (by simp; omega) h2' hG, ?_⟩
          rw [HS.out]
          exact h1'
        case measure => simp [intOf]; omega
      · have d1 : decide ((k : Int) + 1 ≤ n - (os.length : Int)) = false := by rw [c3]; simp; omega
        clear c3
        have HE := Lib.hid (show walkTo n y0 (-1) k = walkTo n y0 (-1) m by congr 1; omega)
        obtain ⟨av, cv, rfl⟩ := hown.form
        rw [HE.out] at hown
        go_wp2
        go_ret
        refine ⟨av, cv, by rw [HF.out, HE.out]; rfl, ?_, ?_, hb⟩
        · rw [HF.out]
          exact hown.row (by rw [walkTo_len]; omega) (fun z hz => by have := walkTo_in n y0 (-1) m h1 z hz; omega)
        · intro x hx
          exact (hown.lt x.block (by rw [hx]; rfl)).1

end Go.Proofs.YthhmedlefahccaaGreatDoor
/-
  The one locus as it lies in memory: rows of acts, its box.
-/
namespace Go.Proofs.YthhmedlefahccaaGreatDoor
open Go.RowKit Plait
set_option maxRecDepth 100000
set_option linter.unusedVariables false

/-- A slice of acts as it lies in memory. -/
def RowA (w : World) (a : Option Addr) (ts : List Ac) : Prop :=
  ts.length ≤ 9223372036854775807 ∧ (∀ t ∈ ts, inI t.H ∧ inI t.N ∧ t.T.length ≤ 9223372036854775807) ∧
  (ts = [] ∨ ∃ b off : Nat, a = some ⟨b, off, none⟩ ∧ b < w.heap.size ∧ ∀ i (h : i < ts.length), w.cell? ⟨b, off + i * 3, none⟩ = some (.int .i64 ts[i].H) ∧ w.cell? ⟨b, off + i * 3 + 1, none⟩ = some (.int .i64 ts[i].N) ∧ w.cell? ⟨b, off + i * 3 + 2, none⟩ = some (.string ⟨ts[i].T.toArray⟩))

theorem RowA.later {w w1 : World} {a : Option Addr} {ts : List Ac} (h : RowA w a ts) (hb : Below w.heap.size w w1) : RowA w1 a ts := by
  obtain ⟨h1, h2, h3⟩ := h
  refine ⟨h1, h2, ?_⟩
  rcases h3 with h3 | ⟨b, off, e, hlt, hc⟩
  · exact .inl h3
  · exact .inr ⟨b, off, e, Nat.lt_of_lt_of_le hlt hb.size, fun i hi => ⟨by rw [hb.cell (p := ⟨b, off + i * 3, none⟩) hlt]; exact (hc i hi).1, by rw [hb.cell (p := ⟨b, off + i * 3 + 1, none⟩) hlt]; exact (hc i hi).2.1, by rw [hb.cell (p := ⟨b, off + i * 3 + 2, none⟩) hlt]; exact (hc i hi).2.2⟩⟩
theorem RowA.empty (w : World) (a : Option Addr) : RowA w a [] := ⟨by simp, by simp, .inl rfl⟩
theorem RowA.drew1 {w : World} {a : Option Addr} {ts : List Ac} (h : RowA w a ts) : RowA w.drew a ts := h.later (Below.refl _ _).drew
theorem RowA.drewN {w : World} {a : Option Addr} {ts : List Ac} (h : RowA w a ts) (n : Nat) : RowA (w.drewN n) a ts := h.later (below_drewN (Below.refl _ _) n)
theorem RowA.alloc {w : World} {a : Option Addr} {ts : List Ac} (h : RowA w a ts) (o : Obj) : RowA (w.alloc o) a ts := h.later ((Below.refl _ _).alloc (Nat.le_refl _) _)
theorem RowA.get {w : World} {a : Option Addr} {ts : List Ac} (h : RowA w a ts) (k : Nat) (hk : k < ts.length) :
    ∃ b off : Nat, a = some ⟨b, off, none⟩ ∧ b < w.heap.size ∧ w.cell? ⟨b, off + k * 3, none⟩ = some (.int .i64 ts[k].H) ∧ w.cell? ⟨b, off + k * 3 + 1, none⟩ = some (.int .i64 ts[k].N) ∧ w.cell? ⟨b, off + k * 3 + 2, none⟩ = some (.string ⟨ts[k].T.toArray⟩) ∧ inI ts[k].H ∧ inI ts[k].N ∧ ts[k].T.length ≤ 9223372036854775807 := by
  obtain ⟨_, h2, h3⟩ := h
  rcases h3 with h3 | ⟨b, off, e, hlt, hc⟩
  · rw [h3] at hk; simp at hk
  · exact ⟨b, off, e, hlt, (hc k hk).1, (hc k hk).2.1, (hc k hk).2.2, h2 _ (List.getElem_mem hk)⟩
theorem RowA.far2 {w : World} {a : Option Addr} {ts : List Ac} (h : RowA w a ts) (g i : Nat) (u : Value) (hne : ts = [] ∨ ∀ x, a = some x → x.block ≠ g) : RowA (w.setCell ⟨g, i, none⟩ u) a ts := by
  obtain ⟨h1, h2, h3⟩ := h
  refine ⟨h1, h2, ?_⟩
  rcases h3 with h3 | ⟨b, off, rfl, hlt, hc⟩
  · exact .inl h3
  · rcases hne with hne | hne
    · exact .inl hne
    · have hb : b ≠ g := hne _ rfl
      refine .inr ⟨b, off, rfl, by simpa [World.setCell] using hlt, fun i hi => ?_⟩
      have ne : ∀ x y : Nat, (⟨g, x, none⟩ : Addr) ≠ ⟨b, y, none⟩ := fun x y e => hb (by injection e with e1; exact e1.symm)
      rw [World.cell?_setCell_other _ _ _ _ (ne _ _), World.cell?_setCell_other _ _ _ _ (ne _ _), World.cell?_setCell_other _ _ _ _ (ne _ _)]
      exact hc i hi
/-- A row may be told of by the block in which it lies. -/
theorem RowA.lt {w : World} {a : Option Addr} {ts : List Ac} (h : RowA w a ts) : ts = [] ∨ ∀ x, a = some x → x.block < w.heap.size := by
  rcases h.2.2 with h3 | ⟨b, off, rfl, hlt, _⟩
  · exact .inl h3
  · exact .inr fun x hx => by injection hx with hx; subst hx; exact hlt
theorem Row.lt {w : World} {a : Option Addr} {ts : List Int} (h : Row w a ts) : ts = [] ∨ ∀ x, a = some x → x.block < w.heap.size := by
  rcases h.2.2 with h3 | ⟨b, off, rfl, hlt, _⟩
  · exact .inl h3
  · exact .inr fun x hx => by injection hx with hx; subst hx; exact hlt

/-- The cells of a locus' box, and of an act's. -/
def faBox (f : Fa) (a : Option Addr) (ac : Nat) (d : Option Addr) (dc : Nat) : Array Value := #[.int .i64 f.K, .int .i64 f.At, .int .i64 f.F, .int .i64 f.To, .slice a f.A.length ac, .slice d f.D.length dc]
def acBox (t : Ac) : Array Value := #[.int .i64 t.H, .int .i64 t.N, .string ⟨t.T.toArray⟩]
/-- What a locus' two rows are. -/
def RowsL (w : World) (f : Fa) (a d : Option Addr) : Prop := RowA w a f.A ∧ Row w d f.D
theorem RowsL.later {w w1 : World} {f : Fa} {a d : Option Addr} (h : RowsL w f a d) (hb : Below w.heap.size w w1) : RowsL w1 f a d := ⟨h.1.later hb, h.2.later hb⟩
theorem RowsL.drew1 {w : World} {f : Fa} {a d : Option Addr} (h : RowsL w f a d) : RowsL w.drew f a d := ⟨h.1.drew1, h.2.drew1⟩
theorem RowsL.alloc {w : World} {f : Fa} {a d : Option Addr} (h : RowsL w f a d) (o : Obj) : RowsL (w.alloc o) f a d := ⟨h.1.alloc o, h.2.alloc o⟩
/-- Its numbers are such as a machine holds. -/
def Fa.In (f : Fa) : Prop := inI f.K ∧ inI f.At ∧ inI f.F ∧ inI f.To

end Go.Proofs.YthhmedlefahccaaGreatDoor
/-
  What the frames of the laws over loci use: a locus as the walks are told of it.
-/
namespace Go.Proofs.YthhmedlefahccaaGreatDoor
open Go.ChangeShapes Go.WideShapes Go.ChangeAt Go.RowKit Go.Joins Go.Deep Plait
set_option maxRecDepth 100000
set_option linter.unusedVariables false

theorem open_act {H : Type} {enc : TypeId × Value → H} {W : World} {base fuel : Nat} {spare : Nat → Bool} {held : Bool} {cs : List Value} {x : DataW H × List MemPlace}
    (h : DataW.trod enc Tryz.prog W base spare held fuel 79 cs = some x) : ∃ t : Ac, cs = [.int .i64 t.H, .int .i64 t.N, .string ⟨t.T.toArray⟩] ∧ inI t.H ∧ inI t.N ∧ t.T.length ≤ 9223372036854775807 := by
  obtain ⟨xs, n, _, _, hcs, hlen, hg⟩ := DataW.trod_struct Tryz.underlying79 h
  have hC : Tryz.prog.cellsOf 79 = 3 := by kernel_rfl
  have k3 : Tryz.prog.cellsOf 3 = 1 := by kernel_rfl
  have k9 : Tryz.prog.cellsOf 9 = 1 := by kernel_rfl
  rw [hC] at hcs
  match cs, hcs with
  | [u0, u1, u2], _ =>
    match xs, hlen with
    | [y0, y1, y2], _ =>
      have t0 := hg 0 _ rfl
      have t1 := hg 1 _ rfl
      have t2 := hg 2 _ rfl
      simp [k3, k9] at t0 t1 t2
      obtain ⟨n0, e0, _, w0⟩ := DataW.trod_int Tryz.underlying3 t0
      obtain ⟨n1, e1, _, w1⟩ := DataW.trod_int Tryz.underlying3 t1
      obtain ⟨s, e2, _, w2⟩ := DataW.trod_string Tryz.underlying9 t2
      obtain ⟨l, rfl⟩ := bytes_list s
      simp at e0 e1 e2
      exact ⟨⟨n0, n1, l⟩, by rw [e0, e1, e2], bounds_i64 w0, bounds_i64 w1, str_le w2⟩

theorem open_acts {H : Type} {enc : TypeId × Value → H} {W : World} {base fuel : Nat} {spare : Nat → Bool} {held : Bool} {v : Value} {x : DataW H × List MemPlace}
    (h : DataW.trod enc Tryz.prog W base spare held fuel 25 [v] = some x) : ∃ (a : Option Addr) (cap : Nat) (ts : List Ac), v = .slice a ts.length cap ∧ RowA W a ts := by
  have hC : Tryz.prog.cellsOf 79 = 3 := by kernel_rfl
  rcases DataW.trod_slice Tryz.underlying25 h with ⟨hcs, _⟩ | ⟨a, len, cap, elems, rest, n, _, hcs, _, _, hl, hm, hlen, hel, _⟩
  · simp at hcs
    exact ⟨none, 0, [], by simpa using hcs, RowA.empty _ _⟩
  · simp at hcs
    rw [hC] at hel
    have each : ∀ i, i < len → ∃ t : Ac, W.cell? (a.add (i * 3)) = some (.int .i64 t.H) ∧ W.cell? ((a.add (i * 3)).add 1) = some (.int .i64 t.N) ∧ W.cell? ((a.add (i * 3)).add 2) = some (.string ⟨t.T.toArray⟩) ∧ inI t.H ∧ inI t.N ∧ t.T.length ≤ 9223372036854775807 := by
      intro i hi
      have he := hel i hi
      rw [List.getElem?_eq_getElem (by omega), Option.bind_eq_some_iff] at he
      obtain ⟨cs, h1, h2⟩ := he
      obtain ⟨t, rfl, k1, k2, k3⟩ := open_act h2
      have hc := (World.cells?_some h1).2.2
      have q1 := hc 1 (by omega)
      have q2 := hc 2 (by omega)
      refine ⟨t, ?_, by simpa using q1, by simpa using q2, k1, k2, k3⟩
      have : (a.add (i * 3)).add 0 = a.add (i * 3) := by obtain ⟨b, off, spot⟩ := a; simp [Addr.add]
      have q0' := hc 0 (by omega)
      rw [this] at q0'
      simpa using q0'
    obtain ⟨ts, htl, hts⟩ := list_of len _ each
    subst htl
    refine ⟨some a, cap, ts, hcs, by unfold maxLen at hm; omega, fun t ht => ?_, ?_⟩
    · obtain ⟨i, hi, rfl⟩ := List.getElem_of_mem ht
      exact (hts i hi).2.2.2
    · by_cases h0 : ts = []
      · exact .inl h0
      · right
        have hpos : 0 < ts.length := List.length_pos_iff.2 h0
        obtain ⟨b, off, spot⟩ := a
        have hc := (hts 0 hpos).1
        have hspot : spot = none := by simpa [Addr.add] using World.cell?_spot hc
        subst hspot
        rw [addr_at] at hc
        refine ⟨b, off, rfl, World.block_lt_of_cell? _ _ hc, fun i hi => ?_⟩
        have h1 := hts i hi
        rw [addr_at, addr_at, addr_at] at h1
        exact ⟨h1.1, h1.2.1, h1.2.2.1⟩

/-- A locus that came in. -/
theorem open_fault {H : Type} {enc : TypeId × Value → H} {W : World} {base b0 : Nat} {spare : Nat → Bool} {held : Bool} {r : Reach} {v : Value} {d : DataW H} {p : List MemPlace}
    (hv : Value.okWide Tryz.prog W r b0 27 v) (h : DataW.Trod enc Tryz.prog W base spare held 27 v d p) :
    ∃ (f : Fa) (a : Option Addr) (ac : Nat) (e : Option Addr) (dc : Nat), v = .agg #[.int .i64 f.K, .int .i64 f.At, .int .i64 f.F, .int .i64 f.To, .slice a f.A.length ac, .slice e f.D.length dc] ∧ RowA W a f.A ∧ Row W e f.D ∧ inI f.K ∧ inI f.At ∧ inI f.F ∧ inI f.To := by
  obtain ⟨cs, rfl, hsz⟩ := okWide_struct Tryz.underlying27 hv
  obtain ⟨l⟩ := cs
  have hC : Tryz.prog.cellsOf 27 = 6 := by kernel_rfl
  match l, hsz.trans hC with
  | [c0, c1, c2, c3, c4, c5], _ =>
    obtain ⟨fuel, hf⟩ := h
    obtain ⟨xs, n, _, hx, _, hlen, hg⟩ := DataW.trod_struct Tryz.underlying27 hf
    have k3 : Tryz.prog.cellsOf 3 = 1 := by kernel_rfl
    have k22 : Tryz.prog.cellsOf 22 = 1 := by kernel_rfl
    have k25 : Tryz.prog.cellsOf 25 = 1 := by kernel_rfl
    match xs, hlen with
    | [y0, y1, y2, y3, y4, y5], _ =>
      have t0 := hg 0 _ rfl
      have t1 := hg 1 _ rfl
      have t2 := hg 2 _ rfl
      have t3 := hg 3 _ rfl
      have t4 := hg 4 _ rfl
      have t5 := hg 5 _ rfl
      simp [Value.cells, k3, k22, k25] at t0 t1 t2 t3 t4 t5
      obtain ⟨n0, e0, _, w0⟩ := DataW.trod_int Tryz.underlying3 t0
      obtain ⟨n1, e1, _, w1⟩ := DataW.trod_int Tryz.underlying3 t1
      obtain ⟨n2, e2, _, w2⟩ := DataW.trod_int Tryz.underlying3 t2
      obtain ⟨n3, e3, _, w3⟩ := DataW.trod_int Tryz.underlying3 t3
      simp at e0 e1 e2 e3
      subst e0 e1 e2 e3
      obtain ⟨a, ac, ts, rfl, hr⟩ := open_acts t4
      have hrow : ∃ (a : Option Addr) (cap : Nat) (zs : List Int), c5 = .slice a zs.length cap ∧ Row W a zs := by
        rcases open_ints Tryz.underlying22 Tryz.underlying3 (by kernel_rfl) t5 with ⟨hcs, _⟩ | ⟨x, l, c, zs, hcs, _, hl, hm, hz, _, hcell, hwz⟩
        · simp at hcs
          exact ⟨none, 0, [], by simpa using hcs, Row.empty _ _⟩
        · simp at hcs
          obtain ⟨ys, e, hr⟩ := row_of hl hm (by rw [hz]; split <;> omega) hcell hwz
          exact ⟨some x, c, ys, by rw [hcs, e], hr⟩
      obtain ⟨e, dc, zs, rfl, hr2⟩ := hrow
      exact ⟨⟨n0, n1, n2, n3, ts, zs⟩, a, ac, e, dc, rfl, hr, hr2, bounds_i64 w0, bounds_i64 w1, bounds_i64 w2, bounds_i64 w3⟩

end Go.Proofs.YthhmedlefahccaaGreatDoor
/-
  Contracts of package conf, second part: a slot's voters.
-/
namespace Go.Proofs.YthhmedlefahccaaGreatDoor
open Go.RowKit Plait
set_option maxRecDepth 100000
set_option linter.unusedVariables false

/-- The array of marks. -/
def marks (l : List Int) : Array Value := ((List.range 12).map fun i : Nat => Value.bool (l.contains (i : Int))).toArray

theorem marks_at (l : List Int) (k : Nat) (h : k < 12) : (marks l)[k]? = some (.bool (l.contains (k : Int))) := by
  simp [marks, h]

theorem marks_add (l : List Int) (z : Int) (h0 : 0 ≤ z) (h : z < 12) : (marks l).setIfInBounds z.toNat (.bool true) = marks (l ++ [z]) := by
  have hz := marks_at l
  have hs : (marks l).size = 12 := by simp [marks]
  apply Array.ext_getElem?
  intro i
  rw [Array.getElem?_setIfInBounds]
  by_cases hi : i < 12
  · rw [hz i hi, marks_at (l ++ [z]) i hi]
    by_cases e : z.toNat = i
    · have e2 : (i : Int) = z := by omega
      rw [if_pos e, if_pos (by omega)]
      simp [e2]
    · rw [if_neg e]
      have : ((i : Int) = z) = False := by simp; omega
      simp [this]
  · rw [if_neg (by omega)]
    rw [Array.getElem?_eq_none (by omega), Array.getElem?_eq_none (by simp [marks]; omega)]

/-- The loop that marks the owners. -/
def MarkAt (bx : Array Value) (zs : List Int) (ao : Option Addr) (w : World) (i : Value) (w' : World) : Prop :=
  ∃ k : Nat, k ≤ zs.length ∧ i = .int .i64 k ∧ Below w.heap.size w w' ∧ Blk w' w.heap.size 24 bx ∧ Blk w' (w.heap.size + 1) 94 (marks (zs.take k)) ∧ Row w' ao zs

/-- The loop that gathers the voters. -/
def VoteAt (bx : Array Value) (c : Cf) (s : Int) (w : World) (v i : Value) (w' : World) : Prop :=
  ∃ k : Nat, (k : Int) ≤ c.N ∧ i = .int .i64 k ∧ Below w.heap.size w w' ∧ Blk w' w.heap.size 24 bx ∧ Blk w' (w.heap.size + 1) 94 (marks (owners c s)) ∧ OwnI (w.heap.size + 2) w' v (votersTo c s k)

end Go.Proofs.YthhmedlefahccaaGreatDoor
