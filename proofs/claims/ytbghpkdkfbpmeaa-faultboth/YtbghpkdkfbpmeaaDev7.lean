/-
  Contracts of package ring, second part: who is among the owners, the walk round, what is struck out of it, ways.
-/
import Derived.Test.YtbghpkdkfbpmeaaDev6
import Derived.Lib.SliceRun
namespace Go.Proofs.Ytbghpkdkfbpmeaa
open Go.RowKit Plait
set_option maxRecDepth 100000
set_option linter.unusedVariables false

/-- The loop of a search: none ahead of k. -/
def NoneTo (zs : List Int) (p : Int → Bool) (k : Nat) : Prop := ∀ j (h : j < zs.length), j < k → p zs[j] = false

/-- What a search answers. -/
def Found (zs : List Int) (p : Int → Bool) (r : Int) : Prop := (r = -1 ∧ NoneTo zs p zs.length) ∨ ∃ k : Nat, ∃ h : k < zs.length, r = (k : Int) ∧ p zs[k] = true ∧ NoneTo zs p k

theorem NoneTo.succ {zs : List Int} {p : Int → Bool} {k : Nat} (h : NoneTo zs p k) (hk : k < zs.length) (hp : p zs[k] = false) : NoneTo zs p (k + 1) := by
  intro j hj hlt
  by_cases e : j = k
  · subst e; exact hp
  · exact h j hj (by omega)

theorem found_inB (zs : List Int) (x r : Int) (h : Found zs (fun z => x == z) r) : decide (0 ≤ r) = inB zs x := by
  rcases h with ⟨rfl, h⟩ | ⟨k, hk, rfl, he, _⟩
  · have : inB zs x = false := by
      unfold inB
      rw [Bool.eq_false_iff]
      intro hc
      rw [List.contains_iff_mem] at hc
      obtain ⟨j, hj, e⟩ := List.getElem_of_mem hc
      have := h j hj hj
      simp [e] at this
    rw [this]; rfl
  · have : inB zs x = true := by
      unfold inB
      rw [List.contains_iff_mem, eq_of_beq he]
      exact List.getElem_mem hk
    rw [this]; simp

theorem lastI_neg (zs : List Int) (d : Int) (h : d < 0) (hz : 0 < zs.length) : zs[0] = lastI zs d := by
  unfold lastI
  rw [if_pos h]
  cases zs with
  | nil => simp at hz
  | cons y r => rfl
theorem lastI_pos (zs : List Int) (d : Int) (h : ¬ d < 0) (hz : zs.length - 1 < zs.length) : zs[zs.length - 1] = lastI zs d := by
  unfold lastI
  rw [if_neg h, List.getLastD_eq_getLast?, List.getLast?_eq_getElem?, List.getElem?_eq_getElem hz]
  rfl

/-- What a call answers that makes a row which it may yet write. -/
def OwnRet7 (zs : List Int) (w : World) (e : Ending) (w' : World) : Prop := ∃ v, e = .returned v ∧ OwnI w.heap.size w' v zs ∧ Below w.heap.size w w'

/-- The loop that gathers the walk. -/
def WalkAt (n f d : Int) (w : World) (v i : Value) (w' : World) : Prop :=
  ∃ k : Nat, (k : Int) + 1 ≤ n ∧ i = .int .i64 ((k : Int) + 1) ∧ Below w.heap.size w w' ∧ OwnI w.heap.size w' v (walkTo n f d k)

/-- Numbers at the start of a block that may be written. -/
def Lies (w : World) (g : Nat) (ys : List Int) : Prop := ∃ cs, Blk w g 3 cs ∧ ∀ i (h : i < ys.length), cs[i]? = some (.int .i64 ys[i])

theorem Lies.cell {w : World} {g : Nat} {ys : List Int} (h : Lies w g ys) (i : Nat) (hi : i < ys.length) : w.cell? ⟨g, i, none⟩ = some (.int .i64 ys[i]) := by
  obtain ⟨cs, hB, hc⟩ := h
  rw [hB.at, hc i hi]
theorem Lies.frozen {w : World} {g : Nat} {ys : List Int} (h : Lies w g ys) (i : Nat) : w.frozen? ⟨g, i, none⟩ = false := by
  obtain ⟨cs, hB, hc⟩ := h
  exact hB.frozen i
theorem Lies.lt {w : World} {g : Nat} {ys : List Int} (h : Lies w g ys) : g < w.heap.size := by
  obtain ⟨cs, hB, hc⟩ := h
  exact hB.lt
theorem Lies.set {w : World} {g : Nat} {ys : List Int} (h : Lies w g ys) (i : Nat) (x : Int) : Lies (w.setCell ⟨g, i, none⟩ (.int .i64 x)) g (ys.set i x) := by
  obtain ⟨cs, hB, hc⟩ := h
  refine ⟨_, hB.set i _, fun j hj => ?_⟩
  rw [List.length_set] at hj
  have hs := hc j hj
  obtain ⟨hlt, _⟩ := Array.getElem?_eq_some_iff.1 hs
  by_cases e : i = j
  · subst e
    rw [Array.getElem?_setIfInBounds_self_of_lt hlt]
    simp
  · rw [Array.getElem?_setIfInBounds_ne e, hs, List.getElem_set_ne e]
theorem Lies.take {w : World} {g : Nat} {ys : List Int} (h : Lies w g ys) (k : Nat) : Lies w g (ys.take k) := by
  obtain ⟨cs, hB, hc⟩ := h
  refine ⟨cs, hB, fun j hj => ?_⟩
  rw [List.length_take] at hj
  rw [List.getElem_take]
  exact hc j (by omega)
theorem Lies.row {w : World} {g : Nat} {ys : List Int} (h : Lies w g ys) (hl : ys.length ≤ 9223372036854775807) (hz : ∀ z ∈ ys, -9223372036854775808 ≤ z ∧ z ≤ 9223372036854775807) : Row w (some ⟨g, 0, none⟩) ys :=
  ⟨hl, hz, .inr ⟨g, 0, rfl, h.lt, fun i hi => by rw [Nat.zero_add]; exact h.cell i hi⟩⟩
theorem OwnI.lies {base : Nat} {w : World} {v : Value} {zs : List Int} (h : OwnI base w v zs) (hz : 0 < zs.length) : ∃ g cap, v = .slice (some ⟨g, 0, none⟩) zs.length cap ∧ zs.length ≤ cap ∧ cap ≤ maxLen ∧ base ≤ g ∧ Lies w g zs := by
  rcases h.2 with ⟨_, h0⟩ | ⟨g, cap, cur, hv, hg, hb, hcap, hmax, hsz, ht⟩
  · omega
  · refine ⟨g, cap, hv, hcap, hmax, hg, cur, hb, fun i hi => ?_⟩
    have e : (cur.toList.take (zs.length * 1))[i]? = (zs.map (Value.int .i64))[i]? := by rw [ht]
    rw [List.getElem?_take, if_pos (by omega)] at e
    simpa [hi] using e

/-- Behind the last kept number all is nought. -/
theorem setCells_lies (base : Nat) : ∀ (vs : List Value) (o : Nat) (w a : World) (g : Nat) (ys : List Int), base ≤ g → Below base a w → Lies w g ys → ys.length ≤ o → Below base a (w.setCells g o vs) ∧ Lies (w.setCells g o vs) g ys
  | [], _, _, _, _, _, _, hb, hl, _ => ⟨hb, hl⟩
  | v :: r, o, w, a, g, ys, hg, hb, hl, ho => by
    refine setCells_lies base r (o + 1) (w.setCell ⟨g, o, none⟩ v) a g ys hg (hb.setCell hg v) ?_ (by omega)
    obtain ⟨cs, hB, hc⟩ := hl
    refine ⟨_, hB.set o _, fun j hj => ?_⟩
    rw [Array.getElem?_setIfInBounds_ne (by omega)]
    exact hc j hj

/-- What the loop has kept: i of the first j. -/
structure Kept (zs os ys : List Int) (i j : Nat) : Prop where
  len : ys.length = zs.length
  lt : i < j
  le : j ≤ zs.length
  low : ys.take i = (zs.take j).filter fun x => !inB os x
  high : ys.drop j = zs.drop j

theorem filter_none (os : List Int) : ∀ (zs : List Int) (k : Nat), NoneTo zs (inB os) k → (zs.take k).filter (fun x => !inB os x) = zs.take k := by
  intro zs k h
  rw [List.filter_eq_self]
  intro x hx
  obtain ⟨j, hj, rfl⟩ := List.getElem_of_mem hx
  rw [List.length_take] at hj
  rw [List.getElem_take]
  simp [h j (by omega) (by omega)]

theorem Kept.start {zs os : List Int} {k : Nat} (hk : k < zs.length) (hp : inB os zs[k] = true) (hno : NoneTo zs (inB os) k) : Kept zs os zs k (k + 1) := by
  refine ⟨rfl, by omega, by omega, ?_, rfl⟩
  rw [List.take_succ_eq_append_getElem hk, List.filter_append, filter_none os zs k hno]
  simp [hp]
theorem Kept.at {zs os ys : List Int} {i j : Nat} (h : Kept zs os ys i j) (hj : j < zs.length) (hj' : j < ys.length) : ys[j] = zs[j] := by
  have e : (ys.drop j)[0]? = (zs.drop j)[0]? := by rw [h.high]
  rw [List.getElem?_drop, List.getElem?_drop, Nat.add_zero, List.getElem?_eq_getElem hj, List.getElem?_eq_getElem hj'] at e
  exact Option.some.inj e
theorem Kept.skip {zs os ys : List Int} {i j : Nat} (h : Kept zs os ys i j) (hj : j < zs.length) (hp : inB os zs[j] = true) : Kept zs os ys i (j + 1) := by
  refine ⟨h.len, by have := h.lt; omega, by omega, ?_, ?_⟩
  · rw [List.take_succ_eq_append_getElem hj, List.filter_append, ← h.low]
    simp [hp]
  · have e := congrArg (List.drop 1) h.high
    rw [List.drop_drop, List.drop_drop] at e
    exact e
theorem Kept.keep {zs os ys : List Int} {i j : Nat} (h : Kept zs os ys i j) (hj : j < zs.length) (hp : inB os zs[j] = false) : Kept zs os (ys.set i zs[j]) (i + 1) (j + 1) := by
  have h1 := h.lt
  have h2 := h.len
  refine ⟨by rw [List.length_set]; exact h.len, by omega, by omega, ?_, ?_⟩
  · rw [List.take_succ_eq_append_getElem hj, List.filter_append, ← h.low]
    rw [List.take_succ_eq_append_getElem (by rw [List.length_set]; omega), List.getElem_set_self, List.take_set_of_le (by omega)]
    simp [hp]
  · have e := congrArg (List.drop 1) h.high
    rw [List.drop_drop, List.drop_drop] at e
    rw [List.drop_set_of_lt (by omega)]
    exact e
theorem Kept.done {zs os ys : List Int} {i : Nat} (h : Kept zs os ys i zs.length) : ys.take i = zs.filter (fun x => !inB os x) ∧ i = (zs.filter fun x => !inB os x).length := by
  have e := h.low
  rw [List.take_of_length_le (Nat.le_refl _)] at e
  refine ⟨e, ?_⟩
  rw [← e, List.length_take]
  have := h.lt
  have := h.len
  omega

end Go.Proofs.Ytbghpkdkfbpmeaa
