/-
  What the frames of the laws over slots use: the table of bounds as the package lays it.
-/
import Derived.Test.YtkflijbhlibadabDoorK8
import Derived.LaidMore
import Derived.Stop.Joined
import Derived.Lib.SmallJoins
import Derived.SevenTiedAt
import Derived.Test.YtkflijbhlibadabDoorK1
import Derived.Test.YtkflijbhlibadabDoorK2
import Derived.Test.YtkflijbhlibadabDoorK7
import Derived.Test.YtkflijbhlibadabDoorK3
namespace Go.Proofs.YtkflijbhlibadabDoor
open Go.ChangeShapes Go.WideShapes Go.ChangeAt Go.RowKit Go.Joins Go.Deep Plait
set_option maxRecDepth 100000
set_option linter.unusedVariables false

/-- The table of bounds, as the row lists it. -/
abbrev laidV : List (String × DataW Unit) := Rows.arbRightRow.laid

theorem gBounds : Tryd.prog.globalNamed (Rows.arbRightRow.named.headD "") = some 0 := by kernel_rfl
theorem tBounds : (Tryd.prog.globals[0]?).map (·.type) = some 99 := by kernel_rfl

theorem door_met (os : Os) (args : Array Value) : laidMetH Tryd.prog laidV ((World.doorLaid Tryd.prog 400 os).forCall (fun _ _ => 0) ⟨#[], args, []⟩).memory :=
  laidMetH_of_parts3 (fuel := 8) (laidMet_of_run' 8 (by kernel_rfl) (by kernel_rfl)) (by kernel_rfl) (by kernel_rfl)

theorem span_read {H : Type} {enc : TypeId × Value → H} {W : World} {base : Nat} {spare : Nat → Bool} {held : Bool} {m : Nat} {a b : Value} {lo hi : Int} {x : DataW H × List MemPlace} (hx : x.1 = .agg [.lit (.int .i64 lo), .lit (.int .i64 hi)])
    (h : DataW.trod enc Tryd.prog W base spare held m 98 [a, b] = some x) : a = .int .i64 lo ∧ b = .int .i64 hi := by
  obtain ⟨ys, n, _, hy, _, hlen, hg⟩ := DataW.trod_struct Tryd.underlying98 h
  have k3 : Tryd.prog.cellsOf 3 = 1 := by kernel_rfl
  match ys, hlen with
  | [y0, y1], _ =>
    have t0 := hg 0 _ rfl
    have t1 := hg 1 _ rfl
    simp [k3] at t0 t1
    obtain ⟨n0, e0, r0, _⟩ := DataW.trod_int Tryd.underlying3 t0
    obtain ⟨n1, e1, r1, _⟩ := DataW.trod_int Tryd.underlying3 t1
    rw [hy] at hx
    simp [r0, r1] at hx
    simp at e0 e1
    rw [e0, e1, hx.1, hx.2]
    exact ⟨rfl, rfl⟩

theorem of_laid {W : World} (h : laidMetH Tryd.prog laidV W) : Bnds W := by
  rw [MakeChecks.laidMetH_plain _ _ _ (by kernel_rfl)] at h
  obtain ⟨ps, ⟨g0, t0, cs0, f0, p0, q0, hg0, ht0, hv0, hd0, _⟩, _, _⟩ := h
  obtain rfl := Option.some.inj (gBounds.symm.trans hg0)
  obtain rfl := Option.some.inj (tBounds.symm.trans ht0)
  have hc : ∀ i, W.cell? ⟨0, i, none⟩ = cs0[i]? := fun i => World.var?_cell hg0 hv0 i
  obtain ⟨xs, m1, rfl, hx1, hlen, hn4, hel⟩ := DataW.trod_array Tryd.underlying99 hd0
  have c44 : Tryd.prog.cellsOf 98 = 2 := by kernel_rfl
  have c45 : Tryd.prog.cellsOf 99 = 8 := by kernel_rfl
  rw [c45] at hlen
  rw [c44] at hel
  obtain ⟨l⟩ := cs0
  match l, hlen with
  | [a0, a1, a2, a3, a4, a5, a6, a7], _ =>
    match xs, hn4 with
    | [x0, x1, x2, x3], _ =>
      simp only [Prod.mk.injEq, Rows.laid_plaiting_conf_bounds, List.map_cons, List.map_nil, DataW.agg.injEq, List.cons.injEq] at hx1
      obtain ⟨⟨y0, y1, y2, y3, _⟩, _⟩ := hx1
      obtain ⟨rfl, rfl⟩ := span_read y0.symm (hel 0 (by omega))
      obtain ⟨rfl, rfl⟩ := span_read y1.symm (hel 1 (by omega))
      obtain ⟨rfl, rfl⟩ := span_read y2.symm (hel 2 (by omega))
      obtain ⟨rfl, rfl⟩ := span_read y3.symm (hel 3 (by omega))
      intro i hi
      rw [hc i]
      rcases (by omega : i = 0 ∨ i = 1 ∨ i = 2 ∨ i = 3 ∨ i = 4 ∨ i = 5 ∨ i = 6 ∨ i = 7) with rfl | rfl | rfl | rfl | rfl | rfl | rfl | rfl <;> rfl

end Go.Proofs.YtkflijbhlibadabDoor
/-
  Plain mathematics of symbols, on: the front that texts have in common.
-/
namespace Plait

theorem common_nil_left (m : List UInt8) : common [] m = [] := by simp [common]
theorem common_nil_right (l : List UInt8) : common l [] = [] := by cases l <;> simp [common, comm]
theorem common_cons (a b : UInt8) (l m : List UInt8) : common (a :: l) (b :: m) = if a = b then a :: common l m else [] := by
  unfold common
  simp only [comm]
  split <;> simp

theorem common_symm : ∀ l m, common l m = common m l
  | [], m => by rw [common_nil_left, common_nil_right]
  | a :: l, [] => by rw [common_nil_left, common_nil_right]
  | a :: l, b :: m => by
    rw [common_cons, common_cons, common_symm l m]
    by_cases h : a = b
    · subst h; rfl
    · rw [if_neg h, if_neg (Ne.symm h)]

theorem common_self : ∀ l, common l l = l
  | [] => common_nil_left []
  | a :: l => by rw [common_cons, if_pos rfl, common_self l]

theorem common_assoc : ∀ a b c, common (common a b) c = common a (common b c)
  | [], b, c => by simp [common_nil_left]
  | x :: a, [], c => by simp [common_nil_left, common_nil_right]
  | x :: a, y :: b, [] => by simp [common_nil_right]
  | x :: a, y :: b, z :: c => by
    have ih := common_assoc a b c
    rw [common_cons x y, common_cons y z]
    by_cases h : x = y
    · subst h
      rw [if_pos rfl, common_cons]
      by_cases h2 : x = z
      · subst h2
        rw [if_pos rfl, if_pos rfl, common_cons, if_pos rfl, ih]
      · rw [if_neg h2, if_neg h2, common_nil_right]
    · rw [if_neg h, common_nil_left]
      by_cases h2 : y = z
      · rw [if_pos h2, common_cons, if_neg h]
      · rw [if_neg h2, common_nil_right]

theorem common_front : ∀ l m, frontB (common l m) l = true
  | [], m => by rw [common_nil_left]; rfl
  | a :: l, [] => by rw [common_nil_right]; rfl
  | a :: l, b :: m => by
    rw [common_cons]
    split
    · have := common_front l m
      simp [frontB] at this ⊢
      exact this
    · rfl

theorem common_front_right (l m : List UInt8) : frontB (common l m) m = true := by
  rw [common_symm]; exact common_front m l

theorem common_prefix : ∀ k l m : List UInt8, common (k ++ l) (k ++ m) = k ++ common l m
  | [], l, m => rfl
  | a :: k, l, m => by
    rw [List.cons_append, List.cons_append, common_cons, if_pos rfl, common_prefix k l m, List.cons_append]

theorem common_length (l m : List UInt8) : (common l m).length = comm l m := by
  rw [common, List.length_take]
  have := comm_le_left l m
  omega

theorem comm_next : ∀ (l m : List UInt8) (h1 : comm l m < l.length) (h2 : comm l m < m.length), l[comm l m] ≠ m[comm l m]
  | [], m, h1, _ => by simp at h1
  | a :: l, [], _, h2 => by simp at h2
  | a :: l, b :: m, h1, h2 => by
    by_cases h : a = b
    · subst h
      have e : comm (a :: l) (a :: m) = comm l m + 1 := by simp [comm]
      simp only [e, List.getElem_cons_succ]
      exact comm_next l m (by simp [comm] at h1; exact h1) (by simp [comm] at h2; exact h2)
    · have e : comm (a :: l) (b :: m) = 0 := by simp [comm, h]
      simp only [e, List.getElem_cons_zero]
      exact h

end Plait
/-
  Plain mathematics of one relay: what goes out at a step, what goes out of two texts, how far it has come.
-/
namespace Plait

def symB (c : UInt8) : Bool := bitB c || c == 35

/-- Does what comes in go out? -/
def passB (cmp over : Bool) (d s : UInt8) : Bool := !over && symB d && (!cmp || d == s)
def stepC (cmp over : Bool) (d s : UInt8) : UInt8 := if passB cmp over d s then d else 46
def stepO (cmp over : Bool) (d s : UInt8) : Bool := if passB cmp over d s then d == 35 else true

def outL (cmp : Bool) (a b : List UInt8) : List UInt8 := if cmp then common (clean a) (clean b) else clean a

/-- What a text brings at a place: idle behind its end. -/
def padL (a : List UInt8) (i : Nat) : UInt8 := a.getD i 46

theorem padL_in (a : List UInt8) (i : Nat) (h : i < a.length) : padL a i = a[i] := by
  unfold padL
  rw [List.getD_eq_getElem?_getD, List.getElem?_eq_getElem h]; rfl
theorem padL_out (a : List UInt8) (i : Nat) (h : ¬ i < a.length) : padL a i = 46 := by
  unfold padL
  rw [List.getD_eq_getElem?_getD, List.getElem?_eq_none (by omega)]; rfl

/-- Behind i symbols that went out: whether it is over. -/
structure LaneAt (cmp : Bool) (a b : List UInt8) (i : Nat) (o : Bool) : Prop where
  le : i ≤ a.length
  same : cmp = true → i ≤ b.length ∧ a.take i = b.take i
  st : (o = false ∧ ∀ c ∈ a.take i, bitB c = true) ∨ (o = true ∧ 0 < i ∧ (∀ c ∈ a.take (i - 1), bitB c = true) ∧ a[i - 1]? = some 35)

theorem LaneAt.start (cmp : Bool) (a b : List UInt8) : LaneAt cmp a b 0 false := ⟨Nat.zero_le _, fun _ => ⟨Nat.zero_le _, by simp⟩, .inl ⟨rfl, by simp⟩⟩

theorem symB_dot : symB 46 = false := by decide

theorem passB_in {cmp o : Bool} {a b : List UInt8} {i : Nat} (h : passB cmp o (padL a i) (padL b i) = true) : i < a.length ∧ o = false ∧ symB (padL a i) = true ∧ (cmp = true → i < b.length ∧ padL a i = padL b i) := by
  unfold passB at h
  simp only [Bool.and_eq_true, Bool.not_eq_true', Bool.or_eq_true, beq_iff_eq] at h
  obtain ⟨⟨h1, h2⟩, h3⟩ := h
  have hi : i < a.length := by
    rcases Nat.lt_or_ge i a.length with q | q
    · exact q
    · rw [padL_out a i (by omega), symB_dot] at h2; cases h2
  refine ⟨hi, h1, h2, fun hc => ?_⟩
  rcases h3 with h3 | h3
  · rw [hc] at h3; cases h3
  · refine ⟨?_, h3⟩
    rcases Nat.lt_or_ge i b.length with q | q
    · exact q
    · rw [h3, padL_out b i (by omega), symB_dot] at h2; cases h2

/-- A step that passes. -/
theorem LaneAt.next {cmp o : Bool} {a b : List UInt8} {i : Nat} (h : LaneAt cmp a b i o) (hp : passB cmp o (padL a i) (padL b i) = true) : LaneAt cmp a b (i + 1) (padL a i == 35) ∧ i < a.length := by
  obtain ⟨hi, ho, hs, hc⟩ := passB_in hp
  refine ⟨⟨hi, fun e => ?_, ?_⟩, hi⟩
  · obtain ⟨hb, he⟩ := hc e
    rw [padL_in a i hi, padL_in b i hb] at he
    exact ⟨hb, take_snoc_eq i a b hi hb (h.same e).2 he⟩
  · rcases h.st with ⟨_, hb⟩ | ⟨ho', _⟩
    · rw [padL_in a i hi] at hs ⊢
      by_cases h35 : a[i] = 35
      · right
        refine ⟨by simp [h35], by omega, by simpa using hb, ?_⟩
        rw [Nat.add_sub_cancel, List.getElem?_eq_getElem hi, h35]
      · left
        refine ⟨by simp [h35], bits_snoc a i hi hb ?_⟩
        unfold symB at hs
        simpa [h35] using hs
    · rw [ho] at ho'; cases ho'

theorem clean_take_of_bits (a : List UInt8) (i : Nat) (hi : i ≤ a.length) (hb : ∀ c ∈ a.take i, bitB c = true) : i ≤ slen a := by
  rw [slen_bits i a hi hb]; omega

theorem take_clean (a : List UInt8) (i : Nat) (h : i ≤ slen a) : (clean a).take i = a.take i := by
  unfold clean
  rw [List.take_take, Nat.min_eq_left h]

theorem clean_len (a : List UInt8) : (clean a).length = slen a := by
  unfold clean
  rw [List.length_take]
  have := slen_le a
  omega

theorem LaneAt.slen {cmp o : Bool} {a b : List UInt8} {i : Nat} (h : LaneAt cmp a b i o) : i ≤ Plait.slen a := by
  rcases h.st with ⟨_, hb⟩ | ⟨_, h0, hb, h35⟩
  · exact clean_take_of_bits a i h.le hb
  · have hlt : i - 1 < a.length := by have := h.le; omega
    rw [List.getElem?_eq_getElem hlt] at h35
    have := slen_at_tail a (i - 1) hlt hb (by simpa using h35)
    omega

theorem bits_take_congr {a b : List UInt8} {i : Nat} (h : a.take i = b.take i) (hb : ∀ c ∈ a.take i, bitB c = true) : ∀ c ∈ b.take i, bitB c = true := by rw [← h]; exact hb

/-- The other text has a stream as long, where they are compared. -/
theorem LaneAt.slen2 {o : Bool} {a b : List UInt8} {i : Nat} (h : LaneAt true a b i o) : i ≤ Plait.slen b := by
  obtain ⟨hl, he⟩ := h.same rfl
  rcases h.st with ⟨_, hb⟩ | ⟨_, h0, hb, h35⟩
  · exact clean_take_of_bits b i hl (bits_take_congr he hb)
  · have hlt : i - 1 < b.length := by omega
    have hlt2 : i - 1 < a.length := by have := h.le; omega
    have he1 : a.take (i - 1) = b.take (i - 1) := by
      have := congrArg (List.take (i - 1)) he
      rwa [List.take_take, List.take_take, Nat.min_eq_left (by omega)] at this
    have he2 : b[i - 1] = 35 := by
      have hq : (a.take i)[i - 1]? = (b.take i)[i - 1]? := by rw [he]
      rw [List.getElem?_take_of_lt (by omega), List.getElem?_take_of_lt (by omega), h35, List.getElem?_eq_getElem hlt] at hq
      simpa using hq.symm
    have := slen_at_tail b (i - 1) hlt (bits_take_congr he1 hb) he2
    omega

/-- A step that does not pass: what went out is all. -/
theorem LaneAt.stop {cmp o : Bool} {a b : List UInt8} {i : Nat} (h : LaneAt cmp a b i o) (hp : passB cmp o (padL a i) (padL b i) = false) : outL cmp a b = a.take i := by
  have hs := h.slen
  have key : Plait.slen a = i ∨ (cmp = true ∧ (Plait.slen b = i ∨ ∃ (h1 : i < a.length) (h2 : i < b.length), a[i] ≠ b[i] ∧ i < Plait.slen a ∧ i < Plait.slen b)) := by
    rcases h.st with ⟨ho, hb⟩ | ⟨ho, h0, hb, h35⟩
    · subst ho
      by_cases hi : i < a.length
      · by_cases hsy : symB a[i] = true
        · right
          unfold passB at hp
          rw [padL_in a i hi, hsy] at hp
          simp at hp
          obtain ⟨hc, hne⟩ := hp
          refine ⟨hc, ?_⟩
          subst hc
          obtain ⟨hl, he⟩ := h.same rfl
          have hb2 := bits_take_congr he hb
          have s1 : i < Plait.slen a := by
            by_cases h35 : a[i] = 35
            · rw [slen_at_tail a i hi hb h35]; omega
            · have := clean_take_of_bits a (i + 1) hi (bits_snoc a i hi hb (by unfold symB at hsy; simpa [h35] using hsy))
              omega
          by_cases hi2 : i < b.length
          · rw [padL_in b i hi2] at hne
            by_cases hsy2 : symB b[i] = true
            · right
              refine ⟨hi, hi2, hne, s1, ?_⟩
              by_cases h35 : b[i] = 35
              · rw [slen_at_tail b i hi2 hb2 h35]; omega
              · have := clean_take_of_bits b (i + 1) hi2 (bits_snoc b i hi2 hb2 (by unfold symB at hsy2; simpa [h35] using hsy2))
                omega
            · left
              unfold symB at hsy2
              simp at hsy2
              exact slen_at_other b i hi2 hb2 hsy2.2 hsy2.1
          · left
            have : i = b.length := by omega
            subst this
            exact slen_at_end b hb2
        · left
          unfold symB at hsy
          simp at hsy
          exact slen_at_other a i hi hb hsy.2 hsy.1
      · left
        have : i = a.length := by have := h.le; omega
        subst this
        exact slen_at_end a hb
    · left
      have hlt : i - 1 < a.length := by have := h.le; omega
      rw [List.getElem?_eq_getElem hlt] at h35
      have := slen_at_tail a (i - 1) hlt hb (by simpa using h35)
      omega
  unfold outL
  cases cmp with
  | false =>
    rcases key with k | ⟨k, _⟩
    · simp [clean, k]
    · cases k
  | true =>
    obtain ⟨hl, he⟩ := h.same rfl
    have hs2 := h.slen2
    simp only [if_true]
    have t1 := take_clean a i hs
    have t2 := take_clean b i hs2
    have hee : (clean a).take i = (clean b).take i := by rw [t1, t2, he]
    have hcc : comm (clean a) (clean b) = i := by
      rcases key with k | ⟨_, k | ⟨h1, h2, hne, k1, k2⟩⟩
      · exact comm_out_left i _ _ (by rw [clean_len, k]) (by rw [clean_len]; exact hs2) hee
      · exact comm_out_right i _ _ (by rw [clean_len]; exact hs) (by rw [clean_len, k]) hee
      · refine comm_stop i _ _ (by rw [clean_len]; exact k1) (by rw [clean_len]; exact k2) hee ?_
        simp only [clean, List.getElem_take]
        exact hne
    rw [common, hcc, t1]

/-- At the direct text's end, too. -/
theorem LaneAt.done {cmp o : Bool} {a b : List UInt8} (h : LaneAt cmp a b a.length o) : outL cmp a b = a := by
  rw [h.stop, List.take_length]
  unfold passB
  rw [padL_out a a.length (by omega), symB_dot]
  simp

theorem outL_len (cmp : Bool) (a b : List UInt8) : (outL cmp a b).length ≤ a.length := by
  have h1 := slen_le a
  unfold outL
  split
  · rw [common, List.length_take, clean_len]; omega
  · rw [clean_len]; exact h1

end Plait
/-
  Plain mathematics of relays, on: what goes out is a stream, a front of both; compared twice, and of three.
-/
namespace Plait

theorem clean_front : ∀ (a : List UInt8) (k : Nat), clean ((clean a).take k) = (clean a).take k
  | [], k => by simp [clean_nil]
  | c :: l, 0 => by simp [clean_nil]
  | c :: l, k + 1 => by
    rw [clean_cons]
    by_cases h : c = 35
    · rw [if_pos h]; simp [clean_cons]
    · rw [if_neg h]
      by_cases h2 : bitB c = true
      · rw [if_pos h2, List.take_succ_cons, clean_cons, if_neg h, if_pos h2, clean_front l k]
      · rw [if_neg h2]; simp [clean_nil]

theorem outL_true (a b : List UInt8) : outL true a b = common (clean a) (clean b) := rfl
theorem outL_false (a b : List UInt8) : outL false a b = clean a := rfl

theorem clean_out (cmp : Bool) (a b : List UInt8) : clean (outL cmp a b) = outL cmp a b := by
  cases cmp
  · exact clean_idem a
  · exact clean_front a _

theorem front_trans {a b c : List UInt8} (h1 : frontB a b = true) (h2 : frontB b c = true) : frontB a c = true := by
  unfold frontB at *
  rw [List.isPrefixOf_iff_prefix] at *
  exact h1.trans h2

theorem front_clean (a : List UInt8) : frontB (clean a) a = true := by
  unfold frontB clean
  rw [List.isPrefixOf_iff_prefix]
  exact List.take_prefix _ _

theorem out_front (a b : List UInt8) : frontB (outL true a b) a = true := front_trans (common_front _ _) (front_clean a)
theorem out_front2 (a b : List UInt8) : frontB (outL true a b) b = true := front_trans (common_front_right _ _) (front_clean b)
theorem out_symm (a b : List UInt8) : outL true b a = outL true a b := common_symm _ _
theorem out_self (a : List UInt8) : outL true a a = clean a := common_self _
theorem out_again (a b : List UInt8) : outL true (outL true a b) a = outL true a b := by
  rw [outL_true (outL true a b) a, clean_out, outL_true, common_symm, ← common_assoc, common_self]
theorem out_again2 (a b : List UInt8) : outL true (outL true a b) (outL true a b) = outL true a b := by
  rw [out_self, clean_out]
theorem out_direct (a b : List UInt8) : outL false (outL true a b) b = outL true a b := by
  rw [outL_false, clean_out]
theorem out_front3 (a b : List UInt8) : frontB (outL true a b) (outL false a b) = true := common_front _ _

theorem out3 (a b c : List UInt8) : outL true (outL true a b) c = common (clean a) (common (clean b) (clean c)) := by
  rw [outL_true (outL true a b) c, clean_out, outL_true, common_assoc]
theorem out3r (a b c : List UInt8) : outL true a (outL true b c) = common (clean a) (common (clean b) (clean c)) := by
  rw [outL_true a, clean_out, outL_true]
theorem out3t (a b c : List UInt8) : outL true (outL true c a) b = common (clean a) (common (clean b) (clean c)) := by
  rw [out3, common_symm (clean c), common_assoc]

end Plait
/-
  Plain mathematics of relays, on: step by step, what went out and whether it is over.
-/
namespace Plait

/-- Behind i steps: o whether the relay is over, v whether a dot came, s what went out ahead of it. -/
def RunAt (cmp : Bool) (a b : List UInt8) (i : Nat) (o v : Bool) (s : List UInt8) : Prop :=
  (v = false ∧ LaneAt cmp a b i o ∧ s = a.take i) ∨ (v = true ∧ o = true ∧ s = outL cmp a b)

theorem RunAt.start (cmp : Bool) (a b : List UInt8) : RunAt cmp a b 0 false false [] := .inl ⟨rfl, LaneAt.start cmp a b, by simp⟩

theorem pass_not_dot {cmp o : Bool} {d k : UInt8} (h : passB cmp o d k = true) : d ≠ 46 := by
  rintro rfl
  unfold passB at h
  rw [symB_dot] at h
  simp at h

/-- A step that passes. -/
theorem RunAt.pass {cmp o v : Bool} {a b s : List UInt8} {i : Nat} (h : RunAt cmp a b i o v s) (hp : passB cmp o (padL a i) (padL b i) = true) : v = false ∧ RunAt cmp a b (i + 1) (padL a i == 35) false (s ++ [padL a i]) := by
  rcases h with ⟨hv, hL, hs⟩ | ⟨_, ho, _⟩
  · obtain ⟨hn, hi⟩ := hL.next hp
    refine ⟨hv, .inl ⟨rfl, hn, ?_⟩⟩
    rw [hs, padL_in a i hi, List.take_succ_eq_append_getElem hi]
  · subst ho
    simp [passB] at hp

/-- One that does not. -/
theorem RunAt.fail {cmp o v : Bool} {a b s : List UInt8} {i : Nat} (h : RunAt cmp a b i o v s) (hp : passB cmp o (padL a i) (padL b i) = false) : RunAt cmp a b (i + 1) true true s := by
  rcases h with ⟨hv, hL, hs⟩ | ⟨hv, ho, hs⟩
  · exact .inr ⟨rfl, rfl, by rw [hs, hL.stop hp]⟩
  · exact .inr ⟨rfl, rfl, hs⟩

/-- At the direct text's end. -/
theorem RunAt.done {cmp o v : Bool} {a b s : List UInt8} {i : Nat} (h : RunAt cmp a b i o v s) (hi : a.length ≤ i) : s = outL cmp a b := by
  rcases h with ⟨hv, hL, hs⟩ | ⟨hv, ho, hs⟩
  · have := hL.le
    have e : i = a.length := by omega
    subst e
    rw [hs, List.take_length, hL.done]
  · exact hs

/-- Behind it. -/
theorem RunAt.over {cmp o v : Bool} {a b s : List UInt8} {i : Nat} (h : RunAt cmp a b i o v s) (hi : a.length < i) : v = true ∧ o = true ∧ s = outL cmp a b := by
  rcases h with ⟨hv, hL, hs⟩ | h
  · have := hL.le
    omega
  · exact h

theorem RunAt.len {cmp o v : Bool} {a b s : List UInt8} {i : Nat} (h : RunAt cmp a b i o v s) : s.length ≤ a.length := by
  rcases h with ⟨hv, hL, hs⟩ | ⟨hv, ho, hs⟩
  · rw [hs, List.length_take]; omega
  · rw [hs]; exact outL_len cmp a b

theorem out_front_take (s : List UInt8) (k : Nat) (hs : clean s = s) : outL true s (s.take k) = s.take k := by
  have h : clean (s.take k) = s.take k := by
    have := clean_front s k
    rwa [hs] at this
  rw [outL_true, hs, h, common_symm]
  have h2 : ∀ (l : List UInt8) (n : Nat), common (l.take n) l = l.take n := by
    intro l n
    have h := common_prefix (l.take n) [] (l.drop n)
    rw [List.append_nil, List.take_append_drop, common_nil_left, List.append_nil] at h
    exact h
  exact h2 s k

end Plait
/-
  Plain mathematics of a slot, all round, with no program in it: guardians; what each node had in a direction; who is where.
-/
namespace Plait

/-- Does a node of that state let its neighbour in? -/
def admitB (c : Cf) (st dev : Int) : Bool := st != 4 || (decide (-windowI c ≤ dev) && decide (dev ≤ windowI c))
def guardL (c : Cf) (st dev : Int) (s : List UInt8) : List UInt8 := if admitB c st dev then s else []

/-- What a node had in one direction. -/
structure Sd where
  D : List UInt8
  S : List UInt8
  O : List UInt8
  F : Int
deriving DecidableEq, Inhabited

def zeroSd : Sd := ⟨[], [], [], 0⟩

/-- A slot's: the network, the locus, round, slot, direction, the owner last in it; whether it is a pair's; what that owner sends, and the other one; states and clocks. -/
structure Sp where
  c : Cf
  f : Fa
  r : Int
  s : Int
  d : Int
  p0 : Int
  pair : Bool
  snd : List UInt8
  oth : List UInt8
  st : Int → Int
  dv : Int → Int

/-- The node so many steps behind the owner. -/
def Sp.nd (x : Sp) (k : Int) : Int := (x.p0 + x.d * k) % x.c.N

/-- What goes by a link, cleaned. -/
def Sp.em (x : Sp) (a b : Int) (l : List UInt8) : List UInt8 := clean (emitL x.c x.f x.r x.s (x.nd a) (x.nd b) l)

/-- The side of the node k + 1 steps on: of what the node ahead passed on, and the one two steps back, if it is known. -/
def Sp.side (x : Sp) (k : Nat) (q : List UInt8) (p : Option (List UInt8)) : Sd :=
  let D0 := x.em k (k + 1) q
  let D := if k = 0 then guardL x.c (x.st (x.nd 1)) (x.dv (x.nd 1)) D0 else D0
  let S := match p with
    | none => []
    | some p => x.em ((k : Int) - 1) (k + 1) p
  ⟨D, S, if x.st (x.nd (k + 1)) = 0 then [] else outL (decide (0 < k) || x.pair) D S, k + 1⟩

/-- What the node k steps on passed on, and the one ahead of it. -/
def Sp.out (x : Sp) : Nat → List UInt8 × Option (List UInt8)
  | 0 => (x.snd, if x.pair then some x.oth else none)
  | k + 1 => ((x.side k (x.out k).1 (x.out k).2).O, some (x.out k).1)

def Sp.sd (x : Sp) (k : Nat) : Sd := x.side k (x.out k).1 (x.out k).2
/-- What the node k steps on passes on. -/
def Sp.o (x : Sp) (k : Nat) : List UInt8 := (x.out k).1

theorem Sp.out_succ (x : Sp) (k : Nat) : x.out (k + 1) = ((x.sd k).O, some (x.o k)) := rfl
theorem Sp.o_zero (x : Sp) : x.o 0 = x.snd := rfl
theorem Sp.o_succ (x : Sp) (k : Nat) : x.o (k + 1) = (x.sd k).O := rfl
theorem Sp.sd_F (x : Sp) (k : Nat) : (x.sd k).F = (k : Int) + 1 := rfl
/-- The first one's direct copy. -/
theorem Sp.D_zero (x : Sp) : (x.sd 0).D = guardL x.c (x.st (x.nd 1)) (x.dv (x.nd 1)) (x.em 0 1 x.snd) := rfl
theorem Sp.D_succ (x : Sp) (k : Nat) : (x.sd (k + 1)).D = x.em ((k : Int) + 1) ((k : Int) + 1 + 1) (x.o (k + 1)) := by
  show x.em ((k + 1 : Nat) : Int) (((k + 1 : Nat) : Int) + 1) (x.o (k + 1)) = _
  rw [Int.natCast_add]; rfl
theorem Sp.S_zero (x : Sp) : (x.sd 0).S = if x.pair then x.em (-1) 1 x.oth else [] := by
  unfold Sp.sd Sp.side
  rw [show x.out 0 = (x.snd, if x.pair then some x.oth else none) from rfl]
  cases x.pair <;> rfl
theorem Sp.S_succ (x : Sp) (k : Nat) : (x.sd (k + 1)).S = x.em (k : Int) ((k : Int) + 1 + 1) (x.o k) := by
  show x.em (((k + 1 : Nat) : Int) - 1) (((k + 1 : Nat) : Int) + 1) (x.o k) = _
  rw [Int.natCast_add, show ((k : Int) + ((1 : Nat) : Int) - 1) = k by omega]; rfl
theorem Sp.O_zero (x : Sp) : (x.sd 0).O = if x.st (x.nd 1) = 0 then [] else outL x.pair (x.sd 0).D (x.sd 0).S := by
  show (if x.st (x.nd (((0 : Nat) : Int) + 1)) = 0 then [] else outL (decide (0 < 0) || x.pair) (x.sd 0).D (x.sd 0).S) = _
  simp
theorem Sp.O_succ (x : Sp) (k : Nat) : (x.sd (k + 1)).O = if x.st (x.nd ((k : Int) + 1 + 1)) = 0 then [] else outL true (x.sd (k + 1)).D (x.sd (k + 1)).S := by
  show (if x.st (x.nd (((k + 1 : Nat) : Int) + 1)) = 0 then [] else outL (decide (0 < k + 1) || x.pair) (x.sd (k + 1)).D (x.sd (k + 1)).S) = _
  rw [Int.natCast_add, show decide (0 < k + 1) = true by simp]; rfl

/-- What is passed on is a stream. -/
theorem Sp.o_clean (x : Sp) (h : clean x.snd = x.snd) (k : Nat) : clean (x.o k) = x.o k := by
  cases k with
  | zero => exact h
  | succ k =>
    rw [Sp.o_succ]
    unfold Sp.sd Sp.side
    dsimp only
    split
    · rfl
    · exact clean_out _ _ _

/-- A link that the locus does not hit leaves what goes by. -/
theorem Sp.em_same (x : Sp) (a b : Int) (l : List UInt8) (hc : clean l = l) (h : hitsB x.c x.f (x.nd a) (x.nd b) = false ∨ x.f.To ≤ x.r) : x.em a b l = l := by
  unfold Sp.em emitL
  rw [if_pos h, hc]

theorem Sp.em_clean (x : Sp) (a b : Int) (l : List UInt8) : clean (x.em a b l) = x.em a b l := clean_idem _

/-- Compared: a front of both. -/
theorem out_pre (D S s : List UInt8) (h : frontB D s = true) : frontB (outL true D S) s = true :=
  front_trans (out_front D S) h
theorem out_pre2 (D S s : List UInt8) (h : frontB S s = true) : frontB (outL true D S) s = true :=
  front_trans (out_front2 D S) h
theorem front_nil (s : List UInt8) : frontB [] s = true := rfl
theorem front_refl (s : List UInt8) : frontB s s = true := by unfold frontB; rw [List.isPrefixOf_iff_prefix]; exact List.prefix_refl s

theorem guard_yes (c : Cf) (st dev : Int) (s : List UInt8) (h : admitB c st dev = true) : guardL c st dev s = s := by unfold guardL; rw [h]; rfl
theorem guard_no (c : Cf) (st dev : Int) (s : List UInt8) (h : admitB c st dev = false) : guardL c st dev s = [] := by unfold guardL; rw [h]; rfl
theorem guard_front (c : Cf) (st dev : Int) (s t : List UInt8) (h : frontB s t = true) : frontB (guardL c st dev s) t = true := by
  unfold guardL; split
  · exact h
  · exact front_nil t

/-- Where no link ahead is hit, and all are on, and the first one lets it in, all is passed on. -/
theorem Sp.calm (x : Sp) (m : Nat) (hp : x.pair = false) (hs : clean x.snd = x.snd) (hon : ∀ k : Nat, k < m → x.st (x.nd (k + 1)) ≠ 0) (hg : 0 < m → admitB x.c (x.st (x.nd 1)) (x.dv (x.nd 1)) = true)
    (h1 : ∀ k : Nat, k < m → hitsB x.c x.f (x.nd k) (x.nd (k + 1)) = false ∨ x.f.To ≤ x.r) (h2 : ∀ k : Nat, k + 1 < m → hitsB x.c x.f (x.nd k) (x.nd (k + 1 + 1)) = false ∨ x.f.To ≤ x.r) :
    ∀ k : Nat, k ≤ m → x.o k = x.snd := by
  intro k
  induction k using Nat.strongRecOn with
  | ind k ih =>
    intro hk
    match k with
    | 0 => rfl
    | 1 =>
      rw [Sp.o_succ, Sp.O_zero, if_neg (by have := hon 0 (by omega); simpa using this), hp, Sp.D_zero, guard_yes _ _ _ _ (hg (by omega)), outL_false, Sp.em_same x 0 1 _ hs (by have := h1 0 (by omega); simpa using this)]
      exact hs
    | k + 2 =>
      have e1 := ih (k + 1) (by omega) (by omega)
      have e2 := ih k (by omega) (by omega)
      have a1 := h1 (k + 1) (by omega)
      rw [Int.natCast_succ] at a1
      have a0 := hon (k + 1) (by omega)
      rw [Int.natCast_succ] at a0
      rw [Sp.o_succ, Sp.O_succ, if_neg a0, Sp.D_succ, Sp.S_succ, e1, e2, Sp.em_same x _ _ _ hs a1, Sp.em_same x _ _ _ hs (h2 k (by omega)), out_self]
      exact hs

end Plait
/-
  Plain mathematics of what a node takes of a slot.
-/
namespace Plait

/-- The frame that a text is, if it is one of that round and slot. -/
def rightA (c : Cf) (r s : Int) (l : List UInt8) : Fr × Bool := if (readF c l).2 = 0 ∧ (readF c l).1.R = wireI c r ∧ (readF c l).1.S = s then ((readF c l).1, true) else (zeroF, false)

/-- Is a side's copy compared? -/
def compB (c : Cf) (s F : Int) : Bool := decide (2 ≤ F) || (F == 1 && decide (c.N ≤ s))
def compA (c : Cf) (r s : Int) (x : Sd) : Fr × Bool := if compB c s x.F = true then rightA c r s x.O else (zeroF, false)
def loneA (c : Cf) (r s : Int) (x : Sd) : Fr × Bool := if x.F = 1 then rightA c r s x.D else (zeroF, false)
/-- What is taken of two sides. -/
def takeA (c : Cf) (r s : Int) (a b : Sd) : Fr × Bool :=
  if (compA c r s a).2 = true then
    (if (compA c r s b).2 = true then (if a.O = b.O then ((compA c r s a).1, true) else (zeroF, false)) else ((compA c r s a).1, true))
  else if (compA c r s b).2 = true then ((compA c r s b).1, true)
  else if c.N ≤ s then (zeroF, false)
  else if (loneA c r s a).2 = true then ((loneA c r s a).1, true)
  else if (loneA c r s b).2 = true then ((loneA c r s b).1, true)
  else (zeroF, false)

theorem rightA_false {c : Cf} {r s : Int} {l : List UInt8} (h : (rightA c r s l).2 = false) : rightA c r s l = (zeroF, false) := by
  unfold rightA at h ⊢
  split at h
  · cases h
  · rename_i q; rw [if_neg q]
theorem rightA_true {c : Cf} {r s : Int} {l : List UInt8} (h : (rightA c r s l).2 = true) : rightA c r s l = ((rightA c r s l).1, true) := by rw [← h]
theorem rightA_err {c : Cf} {r s : Int} {l : List UInt8} {p : Fr × Int} (h : readF c l = p) (he : p.2 ≠ 0) : rightA c r s l = (zeroF, false) := by
  unfold rightA; rw [h, if_neg (fun q => he q.1)]
theorem readF_nil (c : Cf) : readF c [] = (zeroF, 4) := by
  unfold readF
  rw [show openP [] = ([], 4) by decide]
  rfl
theorem rightA_nil (c : Cf) (r s : Int) : rightA c r s [] = (zeroF, false) := rightA_err (readF_nil c) (by decide)
theorem rightA_text {c : Cf} {r s : Int} {f : Fr} (hc : c.Ok) (hf : f.Ok c) (hr : f.R = wireI c r) (hs : f.S = s) : rightA c r s (textF f) = (f, true) := by
  unfold rightA; rw [readF_text c f hc hf, if_pos ⟨rfl, hr, hs⟩]
theorem rightA_other {c : Cf} {r s : Int} {f : Fr} (hc : c.Ok) (hf : f.Ok c) (h : f.R ≠ wireI c r ∨ f.S ≠ s) : rightA c r s (textF f) = (zeroF, false) := by
  unfold rightA; rw [readF_text c f hc hf, if_neg]
  rintro ⟨_, h1, h2⟩
  rcases h with h | h
  · exact h h1
  · exact h h2
theorem rightA_cut (c : Cf) (r s : Int) (f : Fr) (k : Nat) (h : k < (textF f).length) : rightA c r s ((textF f).take k) = (zeroF, false) := rightA_err (front_refused f k h c) (by decide)
/-- A front of a frame's text that is one is that text. -/
theorem rightA_front {c : Cf} {r s : Int} {f : Fr} {l : List UInt8} (h : frontB l (textF f) = true) (hne : l ≠ textF f) : rightA c r s l = (zeroF, false) := by
  unfold frontB at h
  rw [List.isPrefixOf_iff_prefix] at h
  obtain ⟨t, ht⟩ := h
  have hl : l = (textF f).take l.length := by rw [← ht, List.take_left]
  have hlt : l.length < (textF f).length := by
    rcases Nat.lt_or_ge l.length (textF f).length with q | q
    · exact q
    · exfalso; apply hne
      have : t = [] := by
        rw [← ht, List.length_append] at q
        exact List.eq_nil_of_length_eq_zero (by omega)
      rw [← ht, this, List.append_nil]
  rw [hl]
  exact rightA_cut c r s f _ hlt

theorem compA_not {c : Cf} {r s : Int} {x : Sd} (h : compB c s x.F = false) : compA c r s x = (zeroF, false) := by unfold compA; rw [if_neg (by rw [h]; decide)]
theorem compA_is {c : Cf} {r s : Int} {x : Sd} (h : compB c s x.F = true) : compA c r s x = rightA c r s x.O := by unfold compA; rw [if_pos h]
theorem loneA_not {c : Cf} {r s : Int} {x : Sd} (h : x.F ≠ 1) : loneA c r s x = (zeroF, false) := by unfold loneA; rw [if_neg h]
theorem loneA_is {c : Cf} {r s : Int} {x : Sd} (h : x.F = 1) : loneA c r s x = rightA c r s x.D := by unfold loneA; rw [if_pos h]

/-- A copy as the program holds it: compared, or lone. -/
structure Cp where
  b : Bool
  x : Sd
def Cp.text (p : Cp) : List UInt8 := if p.b then p.x.O else p.x.D
/-- The copies of one side. -/
def cpOf (c : Cf) (s : Int) (x : Sd) : List Cp := if compB c s x.F = true then [⟨true, x⟩] else if x.F = 1 then [⟨false, x⟩] else []
def cpsOf (c : Cf) (s : Int) (a b : Sd) : List Cp := cpOf c s a ++ cpOf c s b
def rightsOf (c : Cf) (r s : Int) (l : List Cp) : List Cp := l.filter fun p => (rightA c r s p.text).2
def chosenL (l : List Cp) : List UInt8 :=
  match l.filter (·.b) with
  | [] => match l with
    | [] => []
    | p :: _ => p.text
  | [p] => p.text
  | p :: q :: _ => if p.text = q.text then p.text else []

theorem key4 (c : Cf) (s : Int) (x : Sd) : (compB c s x.F = true ∧ x.F ≠ 1) ∨ (compB c s x.F = true ∧ c.N ≤ s) ∨ (compB c s x.F = false ∧ x.F = 1 ∧ ¬ c.N ≤ s) ∨ (compB c s x.F = false ∧ x.F ≠ 1) := by
  unfold compB
  by_cases h1 : x.F = 1
  · by_cases hN : c.N ≤ s
    · right; left; simp [h1, hN]
    · right; right; left; simp [h1, hN]
  · by_cases h2 : 2 ≤ x.F
    · left; simp [h1, h2]
    · right; right; right; simp [h1]; omega

/-- What the program takes is what the document says. -/
theorem pick_is (c : Cf) (r s : Int) (a b : Sd) : rightA c r s (chosenL (rightsOf c r s (cpsOf c s a b))) = takeA c r s a b := by
  have hn : (rightA c r s []).2 = false := by rw [rightA_nil]
  unfold takeA cpsOf rightsOf
  rcases key4 c s a with ⟨ha, ha1⟩ | ⟨ha, hN⟩ | ⟨ha, ha1, hN⟩ | ⟨ha, ha1⟩ <;> rcases key4 c s b with ⟨hb, hb1⟩ | ⟨hb, hN'⟩ | ⟨hb, hb1, hN'⟩ | ⟨hb, hb1⟩
  all_goals (first | rw [compA_is ha] | rw [compA_not ha])
  all_goals (first | rw [compA_is hb] | rw [compA_not hb])
  all_goals unfold cpOf
  all_goals simp only [ha, hb, if_true, if_false, Bool.false_eq_true]
  all_goals (try simp only [if_pos ha1, if_neg ha1, loneA_is ha1, loneA_not ha1])
  all_goals (try simp only [if_pos ha1, loneA_is ha1])
  all_goals (try simp only [if_neg ha1, loneA_not ha1])
  all_goals (try simp only [if_pos hb1, loneA_is hb1])
  all_goals (try simp only [if_neg hb1, loneA_not hb1])
  all_goals (try simp only [if_neg hN])
  all_goals (try simp only [if_neg hN'])
  all_goals (try simp only [if_pos hN])
  all_goals (try simp only [if_pos hN'])
  all_goals simp only [List.cons_append, List.nil_append, List.append_nil, List.filter_cons, List.filter_nil, Cp.text, if_true, if_false, Bool.false_eq_true]
  all_goals (cases h1 : (rightA c r s a.O).2 <;> cases h2 : (rightA c r s b.O).2 <;> cases h3 : (rightA c r s a.D).2 <;> cases h4 : (rightA c r s b.D).2)
  all_goals simp [chosenL, Cp.text, rightA_nil]
  all_goals (try split)
  all_goals (first | exact rightA_true h1 | exact rightA_true h2 | exact rightA_true h3 | exact rightA_true h4 | exact rightA_nil c r s | rfl | (simp_all [rightA_nil]; done) | (rename_i q; first | (rw [q]; exact rightA_true h1) | (rw [q]; exact rightA_true h2)))

end Plait
/-
  Contracts of plaitingref3, second part: Check, a slot's owners, its voters.
-/
namespace Go.Proofs.YtkflijbhlibadabDoor
open Go.RowKit Plait
set_option maxRecDepth 100000
set_option linter.unusedVariables false

/-- The loop over the pairs. -/
def RPairsAt (bx : Array Value) (c : Cf) (w : World) (i : Value) (w' : World) : Prop :=
  ∃ k : Nat, k ≤ c.P.length ∧ i = .int .i64 k ∧ Below w.heap.size w w' ∧ Blk w' w.heap.size 24 bx ∧ ∀ z ∈ c.P.take k, pairB c z = true

theorem pairAt_neg (c : Cf) (s : Int) (h : s < 0 ∨ c.N + c.P.length ≤ s) (hn : 0 ≤ c.N) : pairAt c s = -1 := by
  unfold pairAt; rw [if_neg (by omega)]

end Go.Proofs.YtkflijbhlibadabDoor
/-
  Contracts of plaitingref3, third part: a slot's voters.
-/
namespace Go.Proofs.YtkflijbhlibadabDoor
open Go.RowKit Plait
set_option maxRecDepth 100000
set_option linter.unusedVariables false

/-- The loop that gathers the voters: wn is the world at its start. -/
def RVoteAt (c : Cf) (s : Int) (wn : World) (v i : Value) (w' : World) : Prop :=
  ∃ k : Nat, (k : Int) ≤ c.N ∧ i = .int .i64 k ∧ Below wn.heap.size wn w' ∧ OwnI wn.heap.size w' v (votersTo c s k)

end Go.Proofs.YtkflijbhlibadabDoor
/-
  The third laws' own example, 'known'; what the laws hold on to behind Make.
-/
namespace Go.Proofs.YtkflijbhlibadabDoor
open Go.RowKit Plait
set_option maxRecDepth 100000
set_option linter.unusedVariables false

/-- What the laws' regions load of the network g. -/
theorem gs_mk {w W : World} {gb : Nat} {g : Cf} {ga : Option Addr} {gc : Nat} (hK : Blk W gb 24 (confBox g ga gc)) (hr : Row W ga g.P) (hB : Below w.heap.size w W) :
    W.cell? ⟨gb, 0, none⟩ = some (.int .i64 g.N) ∧ W.cell? ⟨gb, 1, none⟩ = some (.int .i64 g.Pi) ∧ W.cell? ⟨gb, 2, none⟩ = some (.int .i64 g.E) ∧ W.cell? ⟨gb, 3, none⟩ = some (.int .i64 g.G) ∧ W.cell? ⟨gb, 4, none⟩ = some (.int .i64 g.F) ∧
      W.cell? ⟨gb, 5, none⟩ = some (.slice ga g.P.length gc) ∧ Blk W gb 24 (confBox g ga gc) ∧ Row W ga g.P ∧ Below w.heap.size w W :=
  ⟨by rw [hK.at]; rfl, by rw [hK.at]; rfl, by rw [hK.at]; rfl, by rw [hK.at]; rfl, by rw [hK.at]; rfl, by rw [hK.at]; rfl, hK, hr, hB⟩

theorem gs_next {w W wm : World} {gb : Nat} {g : Cf} {ga : Option Addr} {gc : Nat} (h : W.cell? ⟨gb, 0, none⟩ = some (.int .i64 g.N) ∧ W.cell? ⟨gb, 1, none⟩ = some (.int .i64 g.Pi) ∧ W.cell? ⟨gb, 2, none⟩ = some (.int .i64 g.E) ∧ W.cell? ⟨gb, 3, none⟩ = some (.int .i64 g.G) ∧ W.cell? ⟨gb, 4, none⟩ = some (.int .i64 g.F) ∧ W.cell? ⟨gb, 5, none⟩ = some (.slice ga g.P.length gc) ∧ Blk W gb 24 (confBox g ga gc) ∧ Row W ga g.P ∧ Below w.heap.size w W) (hb : Below W.heap.size W wm) :
    wm.cell? ⟨gb, 0, none⟩ = some (.int .i64 g.N) ∧ wm.cell? ⟨gb, 1, none⟩ = some (.int .i64 g.Pi) ∧ wm.cell? ⟨gb, 2, none⟩ = some (.int .i64 g.E) ∧ wm.cell? ⟨gb, 3, none⟩ = some (.int .i64 g.G) ∧ wm.cell? ⟨gb, 4, none⟩ = some (.int .i64 g.F) ∧
      wm.cell? ⟨gb, 5, none⟩ = some (.slice ga g.P.length gc) ∧ Blk wm gb 24 (confBox g ga gc) ∧ Row wm ga g.P ∧ Below w.heap.size w wm := by
  obtain ⟨_, _, _, _, _, _, hK, hr, hB⟩ := h
  exact gs_mk (hK.later hb) (hr.later hb) (hB.trans (hb.mono hB.size))

theorem gs_out {w W : World} {gb : Nat} {g : Cf} {ga : Option Addr} {gc : Nat} (h : W.cell? ⟨gb, 0, none⟩ = some (.int .i64 g.N) ∧ W.cell? ⟨gb, 1, none⟩ = some (.int .i64 g.Pi) ∧ W.cell? ⟨gb, 2, none⟩ = some (.int .i64 g.E) ∧ W.cell? ⟨gb, 3, none⟩ = some (.int .i64 g.G) ∧ W.cell? ⟨gb, 4, none⟩ = some (.int .i64 g.F) ∧ W.cell? ⟨gb, 5, none⟩ = some (.slice ga g.P.length gc) ∧ Blk W gb 24 (confBox g ga gc) ∧ Row W ga g.P ∧ Below w.heap.size w W) : Blk W gb 24 (confBox g ga gc) ∧ Row W ga g.P ∧ Below w.heap.size w W := by
  obtain ⟨_, _, _, _, _, _, hK, hr, hB⟩ := h
  exact ⟨hK, hr, hB⟩

/-- The class of worlds in which the network g lies boxed at gb. -/
theorem gs_class {w wg : World} {gb : Nat} {g : Cf} {ga : Option Addr} {gc : Nat} (hK : Blk wg gb 24 (confBox g ga gc)) (hr : Row wg ga g.P) (hB : Below w.heap.size w wg) :
    ∃ (I : Type) (F : I → World) (i0 : I), F i0 = wg.drew ∧ (∀ i, (F i).cell? ⟨gb, 0, none⟩ = some (.int .i64 g.N)) ∧ (∀ i, (F i).cell? ⟨gb, 1, none⟩ = some (.int .i64 g.Pi)) ∧ (∀ i, (F i).cell? ⟨gb, 2, none⟩ = some (.int .i64 g.E)) ∧ (∀ i, (F i).cell? ⟨gb, 3, none⟩ = some (.int .i64 g.G)) ∧
      (∀ i, (F i).cell? ⟨gb, 4, none⟩ = some (.int .i64 g.F)) ∧ (∀ i, (F i).cell? ⟨gb, 5, none⟩ = some (.slice ga g.P.length gc)) ∧ (∀ i, Blk (F i) gb 24 (confBox g ga gc) ∧ Row (F i) ga g.P ∧ Below w.heap.size w (F i)) ∧
      (∀ i w', Below (F i).heap.size (F i) w' → ∃ j, w' = F j) := by
  obtain ⟨I, F, i0, h0, hR, hcl⟩ := class_of wg (fun W => Blk W gb 24 (confBox g ga gc) ∧ Row W ga g.P ∧ Below w.heap.size w W) ⟨hK.drew1, hr.drew1, hB.drew⟩
    (fun W W' ⟨a1, a2, a3⟩ hb => ⟨a1.later hb, a2.later hb, a3.trans (hb.mono a3.size)⟩)
  exact ⟨I, F, i0, h0, fun i => by rw [(hR i).1.at]; rfl, fun i => by rw [(hR i).1.at]; rfl, fun i => by rw [(hR i).1.at]; rfl, fun i => by rw [(hR i).1.at]; rfl, fun i => by rw [(hR i).1.at]; rfl, fun i => by rw [(hR i).1.at]; rfl, hR, hcl⟩

/-- With one cell more. -/
theorem gs_next1 {w W wm : World} {gb sb so : Nat} {sv : Value} {g : Cf} {ga : Option Addr} {gc : Nat} (h : W.cell? ⟨sb, so, none⟩ = some sv ∧ W.cell? ⟨gb, 0, none⟩ = some (.int .i64 g.N) ∧ W.cell? ⟨gb, 1, none⟩ = some (.int .i64 g.Pi) ∧ W.cell? ⟨gb, 2, none⟩ = some (.int .i64 g.E) ∧ W.cell? ⟨gb, 3, none⟩ = some (.int .i64 g.G) ∧ W.cell? ⟨gb, 4, none⟩ = some (.int .i64 g.F) ∧ W.cell? ⟨gb, 5, none⟩ = some (.slice ga g.P.length gc) ∧ Blk W gb 24 (confBox g ga gc) ∧ Row W ga g.P ∧ Below w.heap.size w W) (hb : Below W.heap.size W wm) :
    wm.cell? ⟨sb, so, none⟩ = some sv ∧ wm.cell? ⟨gb, 0, none⟩ = some (.int .i64 g.N) ∧ wm.cell? ⟨gb, 1, none⟩ = some (.int .i64 g.Pi) ∧ wm.cell? ⟨gb, 2, none⟩ = some (.int .i64 g.E) ∧ wm.cell? ⟨gb, 3, none⟩ = some (.int .i64 g.G) ∧ wm.cell? ⟨gb, 4, none⟩ = some (.int .i64 g.F) ∧
      wm.cell? ⟨gb, 5, none⟩ = some (.slice ga g.P.length gc) ∧ Blk wm gb 24 (confBox g ga gc) ∧ Row wm ga g.P ∧ Below w.heap.size w wm :=
  ⟨by rw [hb.cell (p := ⟨sb, so, none⟩) (block_lt h.1)]; exact h.1, gs_next h.2 hb⟩

end Go.Proofs.YtkflijbhlibadabDoor
