/-
  Plain mathematics of one relay: what goes out at a step, what goes out of two texts, how far it has come.
-/
import Derived.Test.YtfpbijcgbknklaaMath
import Derived.Test.YtfpbijcgbknklaaMath3
namespace Plait

def symB (c : UInt8) : Bool := bitB c || c == 35

/-- Does what comes in go out? -/
def passB (cmp over : Bool) (d s : UInt8) : Bool := !over && symB d && (!cmp || d == s)
def stepC (cmp over : Bool) (d s : UInt8) : UInt8 := if passB cmp over d s then d else 46
def stepO (cmp over : Bool) (d s : UInt8) : Bool := if passB cmp over d s then d == 35 else true

def outL (cmp : Bool) (a b : List UInt8) : List UInt8 := if cmp then common (clean a) (clean b) else clean a

/-- What a text brings at a place: idle behind its end. -/
def padL (a : List UInt8) (i : Nat) : UInt8 := a.getD i 46

theorem padL_in (a : List UInt8) (i : Nat) (h : i < a.length) : padL a i = a[i] := by
  unfold padL
  rw [List.getD_eq_getElem?_getD, List.getElem?_eq_getElem h]; rfl
theorem padL_out (a : List UInt8) (i : Nat) (h : ¬ i < a.length) : padL a i = 46 := by
  unfold padL
  rw [List.getD_eq_getElem?_getD, List.getElem?_eq_none (by omega)]; rfl

/-- Behind i symbols that went out: whether it is over. -/
structure LaneAt (cmp : Bool) (a b : List UInt8) (i : Nat) (o : Bool) : Prop where
  le : i ≤ a.length
  same : cmp = true → i ≤ b.length ∧ a.take i = b.take i
  st : (o = false ∧ ∀ c ∈ a.take i, bitB c = true) ∨ (o = true ∧ 0 < i ∧ (∀ c ∈ a.take (i - 1), bitB c = true) ∧ a[i - 1]? = some 35)

theorem LaneAt.start (cmp : Bool) (a b : List UInt8) : LaneAt cmp a b 0 false := ⟨Nat.zero_le _, fun _ => ⟨Nat.zero_le _, by simp⟩, .inl ⟨rfl, by simp⟩⟩

theorem symB_dot : symB 46 = false := by decide

theorem passB_in {cmp o : Bool} {a b : List UInt8} {i : Nat} (h : passB cmp o (padL a i) (padL b i) = true) : i < a.length ∧ o = false ∧ symB (padL a i) = true ∧ (cmp = true → i < b.length ∧ padL a i = padL b i) := by
  unfold passB at h
  simp only [Bool.and_eq_true, Bool.not_eq_true', Bool.or_eq_true, beq_iff_eq] at h
  obtain ⟨⟨h1, h2⟩, h3⟩ := h
  have hi : i < a.length := by
    rcases Nat.lt_or_ge i a.length with q | q
    · exact q
    · rw [padL_out a i (by omega), symB_dot] at h2; cases h2
  refine ⟨hi, h1, h2, fun hc => ?_⟩
  rcases h3 with h3 | h3
  · rw [hc] at h3; cases h3
  · refine ⟨?_, h3⟩
    rcases Nat.lt_or_ge i b.length with q | q
    · exact q
    · rw [h3, padL_out b i (by omega), symB_dot] at h2; cases h2

/-- A step that passes. -/
theorem LaneAt.next {cmp o : Bool} {a b : List UInt8} {i : Nat} (h : LaneAt cmp a b i o) (hp : passB cmp o (padL a i) (padL b i) = true) : LaneAt cmp a b (i + 1) (padL a i == 35) ∧ i < a.length := by
  obtain ⟨hi, ho, hs, hc⟩ := passB_in hp
  refine ⟨⟨hi, fun e => ?_, ?_⟩, hi⟩
  · obtain ⟨hb, he⟩ := hc e
    rw [padL_in a i hi, padL_in b i hb] at he
    exact ⟨hb, take_snoc_eq i a b hi hb (h.same e).2 he⟩
  · rcases h.st with ⟨_, hb⟩ | ⟨ho', _⟩
    · rw [padL_in a i hi] at hs ⊢
      by_cases h35 : a[i] = 35
      · right
        refine ⟨by simp [h35], by omega, by simpa using hb, ?_⟩
        rw [Nat.add_sub_cancel, List.getElem?_eq_getElem hi, h35]
      · left
        refine ⟨by simp [h35], bits_snoc a i hi hb ?_⟩
        unfold symB at hs
        simpa [h35] using hs
    · rw [ho] at ho'; cases ho'

theorem clean_take_of_bits (a : List UInt8) (i : Nat) (hi : i ≤ a.length) (hb : ∀ c ∈ a.take i, bitB c = true) : i ≤ slen a := by
  rw [slen_bits i a hi hb]; omega

theorem take_clean (a : List UInt8) (i : Nat) (h : i ≤ slen a) : (clean a).take i = a.take i := by
  unfold clean
  rw [List.take_take, Nat.min_eq_left h]

theorem clean_len (a : List UInt8) : (clean a).length = slen a := by
  unfold clean
  rw [List.length_take]
  have := slen_le a
  omega

theorem LaneAt.slen {cmp o : Bool} {a b : List UInt8} {i : Nat} (h : LaneAt cmp a b i o) : i ≤ Plait.slen a := by
  rcases h.st with ⟨_, hb⟩ | ⟨_, h0, hb, h35⟩
  · exact clean_take_of_bits a i h.le hb
  · have hlt : i - 1 < a.length := by have := h.le; omega
    rw [List.getElem?_eq_getElem hlt] at h35
    have := slen_at_tail a (i - 1) hlt hb (by simpa using h35)
    omega

theorem bits_take_congr {a b : List UInt8} {i : Nat} (h : a.take i = b.take i) (hb : ∀ c ∈ a.take i, bitB c = true) : ∀ c ∈ b.take i, bitB c = true := by rw [← h]; exact hb

/-- The other text has a stream as long, where they are compared. -/
theorem LaneAt.slen2 {o : Bool} {a b : List UInt8} {i : Nat} (h : LaneAt true a b i o) : i ≤ Plait.slen b := by
  obtain ⟨hl, he⟩ := h.same rfl
  rcases h.st with ⟨_, hb⟩ | ⟨_, h0, hb, h35⟩
  · exact clean_take_of_bits b i hl (bits_take_congr he hb)
  · have hlt : i - 1 < b.length := by omega
    have hlt2 : i - 1 < a.length := by have := h.le; omega
    have he1 : a.take (i - 1) = b.take (i - 1) := by
      have := congrArg (List.take (i - 1)) he
      rwa [List.take_take, List.take_take, Nat.min_eq_left (by omega)] at this
    have he2 : b[i - 1] = 35 := by
      have hq : (a.take i)[i - 1]? = (b.take i)[i - 1]? := by rw [he]
      rw [List.getElem?_take_of_lt (by omega), List.getElem?_take_of_lt (by omega), h35, List.getElem?_eq_getElem hlt] at hq
      simpa using hq.symm
    have := slen_at_tail b (i - 1) hlt (bits_take_congr he1 hb) he2
    omega

/-- A step that does not pass: what went out is all. -/
theorem LaneAt.stop {cmp o : Bool} {a b : List UInt8} {i : Nat} (h : LaneAt cmp a b i o) (hp : passB cmp o (padL a i) (padL b i) = false) : outL cmp a b = a.take i := by
  have hs := h.slen
  have key : Plait.slen a = i ∨ (cmp = true ∧ (Plait.slen b = i ∨ ∃ (h1 : i < a.length) (h2 : i < b.length), a[i] ≠ b[i] ∧ i < Plait.slen a ∧ i < Plait.slen b)) := by
    rcases h.st with ⟨ho, hb⟩ | ⟨ho, h0, hb, h35⟩
    · subst ho
      by_cases hi : i < a.length
      · by_cases hsy : symB a[i] = true
        · right
          unfold passB at hp
          rw [padL_in a i hi, hsy] at hp
          simp at hp
          obtain ⟨hc, hne⟩ := hp
          refine ⟨hc, ?_⟩
          subst hc
          obtain ⟨hl, he⟩ := h.same rfl
          have hb2 := bits_take_congr he hb
          have s1 : i < Plait.slen a := by
            by_cases h35 : a[i] = 35
            · rw [slen_at_tail a i hi hb h35]; omega
            · have := clean_take_of_bits a (i + 1) hi (bits_snoc a i hi hb (by unfold symB at hsy; simpa [h35] using hsy))
              omega
          by_cases hi2 : i < b.length
          · rw [padL_in b i hi2] at hne
            by_cases hsy2 : symB b[i] = true
            · right
              refine ⟨hi, hi2, hne, s1, ?_⟩
              by_cases h35 : b[i] = 35
              · rw [slen_at_tail b i hi2 hb2 h35]; omega
              · have := clean_take_of_bits b (i + 1) hi2 (bits_snoc b i hi2 hb2 (by unfold symB at hsy2; simpa [h35] using hsy2))
                omega
            · left
              unfold symB at hsy2
              simp at hsy2
              exact slen_at_other b i hi2 hb2 hsy2.2 hsy2.1
          · left
            have : i = b.length := by omega
            subst this
            exact slen_at_end b hb2
        · left
          unfold symB at hsy
          simp at hsy
          exact slen_at_other a i hi hb hsy.2 hsy.1
      · left
        have : i = a.length := by have := h.le; omega
        subst this
        exact slen_at_end a hb
    · left
      have hlt : i - 1 < a.length := by have := h.le; omega
      rw [List.getElem?_eq_getElem hlt] at h35
      have := slen_at_tail a (i - 1) hlt hb (by simpa using h35)
      omega
  unfold outL
  cases cmp with
  | false =>
    rcases key with k | ⟨k, _⟩
    · simp [clean, k]
    · cases k
  | true =>
    obtain ⟨hl, he⟩ := h.same rfl
    have hs2 := h.slen2
    simp only [if_true]
    have t1 := take_clean a i hs
    have t2 := take_clean b i hs2
    have hee : (clean a).take i = (clean b).take i := by rw [t1, t2, he]
    have hcc : comm (clean a) (clean b) = i := by
      rcases key with k | ⟨_, k | ⟨h1, h2, hne, k1, k2⟩⟩
      · exact comm_out_left i _ _ (by rw [clean_len, k]) (by rw [clean_len]; exact hs2) hee
      · exact comm_out_right i _ _ (by rw [clean_len]; exact hs) (by rw [clean_len, k]) hee
      · refine comm_stop i _ _ (by rw [clean_len]; exact k1) (by rw [clean_len]; exact k2) hee ?_
        simp only [clean, List.getElem_take]
        exact hne
    rw [common, hcc, t1]

/-- At the direct text's end, too. -/
theorem LaneAt.done {cmp o : Bool} {a b : List UInt8} (h : LaneAt cmp a b a.length o) : outL cmp a b = a := by
  rw [h.stop, List.take_length]
  unfold passB
  rw [padL_out a a.length (by omega), symB_dot]
  simp

theorem outL_len (cmp : Bool) (a b : List UInt8) : (outL cmp a b).length ≤ a.length := by
  have h1 := slen_le a
  unfold outL
  split
  · rw [common, List.length_take, clean_len]; omega
  · rw [clean_len]; exact h1

end Plait
