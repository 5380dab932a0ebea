/-
  A region that draws its order, walked operation by operation: each has a fact of its own on what it yields, and the blocks of memory on which the fact leans. An operation is run from the facts of those that it waits for, so what the region makes may be made at any time; a store fills a box that the region itself made.
-/
import Derived.Test.YthhmedlefahccaaGreatDoorK1
import Derived.StillTail
import Derived.Test.YthhmedlefahccaaGreatDoorK3
import Derived.Test.YthhmedlefahccaaGreatDoorK7
namespace Go.Proofs.YthhmedlefahccaaGreatDoor
open Go.RowKit
set_option maxRecDepth 100000
set_option linter.unusedVariables false

abbrev Foot := Nat → Prop
abbrev Fact := Value → Foot → World → Prop
def anyFact : Fact := fun _ _ _ => True

/-- Worlds that agree on all that is old, and on a fact's own blocks. -/
def Agree (B : Nat) (Z : Foot) (W W' : World) : Prop := W.heap.size ≤ W'.heap.size ∧ ∀ n, n < W.heap.size → (n < B ∨ Z n) → W'.heap[n]? = W.heap[n]?
def Good (B : Nat) (f : Fact) : Prop := ∀ v Z W W', f v Z W → Agree B Z W W' → f v Z W'

/-- Only block b is another one. -/
structure Only (b : Nat) (W W' : World) : Prop where
  os : W'.os = W.os
  tape : W'.tape = W.tape
  output : W'.output = W.output
  size : W'.heap.size = W.heap.size
  rest : ∀ m, m ≠ b → W'.heap[m]? = W.heap[m]?
theorem Only.refl (b : Nat) (W : World) : Only b W W := ⟨rfl, rfl, rfl, rfl, fun _ _ => rfl⟩
theorem Only.set {b : Nat} {W W' : World} (h : Only b W W') (k : Nat) (u : Value) : Only b W (W'.setCell ⟨b, k, none⟩ u) :=
  ⟨h.os, h.tape, h.output, by rw [← h.size]; simp [World.setCell], fun m hm => (Below.heap_setCell W' ⟨b, k, none⟩ u m hm).trans (h.rest m hm)⟩
theorem Only.below {B b : Nat} {w0 W W' : World} (h : Only b W W') (hS : Below B w0 W) (hb : B ≤ b) : Below B w0 W' :=
  ⟨h.os.trans hS.os, h.tape.trans hS.tape, h.output.trans hS.output, by rw [h.size]; exact hS.size, fun i hi => (h.rest i (by omega)).trans (hS.block i hi)⟩

/-- Which slot each operation writes: D; of which slot each fact speaks: E (a store's of the slot of the box that it fills: T). -/
def dstOf (D : List (Option Nat)) (j : Nat) : Option Nat := (D[j]?).join
def yieldsOf (D : List (Option Tmp)) (a : Act) (j : Nat) : Option Bool := match dstOf D j with | some d => (match a.eval (.tmp d) with | .bool b => some b | _ => none) | none => none
def slotE (D T : List (Option Nat)) (j : Nat) : Option Tmp := match dstOf T j with | some i => dstOf D i | none => dstOf D j
/-- Is it a box that a store fills, or that store? -/
def isBox (T : List (Option Nat)) (i : Nat) : Bool := T.any (· == some i)
def isSt (T : List (Option Nat)) (i : Nat) : Bool := (dstOf T i).isSome

/-- The frame: its size, no defers, the slots that the region does not write. -/
structure Fm (n : Nat) (D : List (Option Nat)) (a0 a : Act) : Prop where
  size : a.tmps.size = n
  defers : a.defers = []
  old : ∀ k, (D.all fun x => x != some k) = true → a.eval (.tmp k) = a0.eval (.tmp k)

def dep (o : Oper) (i : Nat) : Bool := o.after.toList.any fun e => Region.binds .any e && e.on == i

/-- The blocks on which the facts of what an operation waits for lean. -/
def footD (T : List (Option Nat)) (o : Oper) (Zs : Nat → Foot) : Foot := fun m => ∃ i, dep o i = true ∧ isBox T i = false ∧ isSt T i = false ∧ Zs i m
def footN (T : List (Option Nat)) (o : Oper) (Zs : Nat → Foot) (W W' : World) : Foot := fun m => (W.heap.size ≤ m ∧ m < W'.heap.size) ∨ footD T o Zs m

/-- What is asked of one operation. -/
def Ob (P : Program) (w0 : World) (D T : List (Option Nat)) (n : Nat) (a0 : Act) (Q : Exit → Act → World → Prop) (j : Nat) (o : Oper) (fs : List Fact) (f : Fact) : Prop :=
  ∀ (a : Act) (W : World) (Zs : Nat → Foot), Below w0.heap.size w0 W → Fm n D a0 a → (∀ i m, dep o i = true → Zs i m → w0.heap.size ≤ m ∧ m < W.heap.size) →
    (∀ i d, dep o i = true → slotE D T i = some d → fs.getD i anyFact (a.eval (.tmp d)) (Zs i) W) →
    match dstOf T j with
    | none => (Region.wanted o (yieldsOf D a) = true ∧ ∀ K : Act → World → Prop, (∀ v W', f v (footN T o Zs W W') W' → Below W.heap.size W W' → K (a.put o.dst v) W') → o.wp P a W K Q) ∨ (Region.wanted o (yieldsOf D a) = false ∧ f undef (footD T o Zs) W)
    | some i => (∀ x m, dep o x = true → x ≠ i → Zs x m → ¬ Zs i m) → Region.wanted o (yieldsOf D a) = true ∧ ∃ b, Zs i b ∧ ∀ K : Act → World → Prop, (∀ v W', Only b W W' → (∀ d, dstOf D i = some d → f (a.eval (.tmp d)) (fun m => m = b ∨ footD T o Zs m) W' ∧ fs.getD i anyFact (a.eval (.tmp d)) (Zs i) W') → K (a.put o.dst v) W') → o.wp P a W K Q

def Steps (P : Program) (w0 : World) (D T : List (Option Nat)) (n : Nat) (a0 : Act) (Q : Exit → Act → World → Prop) (R : List Fact → Prop) : List Oper → Nat → List Fact → Prop
  | [], _, fs => R fs
  | o :: rest, j, fs => ∃ f : Fact, Good w0.heap.size f ∧ Ob P w0 D T n a0 Q j o fs f ∧ Steps P w0 D T n a0 Q R rest (j + 1) (fs ++ [f])

theorem steps_all {P : Program} {w0 : World} {D T : List (Option Nat)} {n : Nat} {a0 : Act} {Q : Exit → Act → World → Prop} {R : List Fact → Prop} : ∀ (rest : List Oper) (fs0 : List Fact), Steps P w0 D T n a0 Q R rest fs0.length fs0 →
    ∃ fs : List Fact, fs.length = fs0.length + rest.length ∧ fs.take fs0.length = fs0 ∧ R fs ∧
      ∀ i o, rest[i]? = some o → Good w0.heap.size (fs.getD (fs0.length + i) anyFact) ∧ Ob P w0 D T n a0 Q (fs0.length + i) o (fs.take (fs0.length + i)) (fs.getD (fs0.length + i) anyFact)
  | [], fs0, h => ⟨fs0, by simp, by simp, h, fun i o hi => by simp at hi⟩
  | o :: rest, fs0, ⟨f, hst, hob, h⟩ => by
    have hlen : (fs0 ++ [f]).length = fs0.length + 1 := by simp
    obtain ⟨fs, hl, ht, hR, hall⟩ := steps_all rest (fs0 ++ [f]) (by rw [hlen]; exact h)
    rw [hlen] at hl ht hall
    have ht0 : fs.take fs0.length = fs0 := by
      have := congrArg (List.take fs0.length) ht
      rw [List.take_take, Nat.min_eq_left (by omega)] at this
      simpa using this
    have hf : fs.getD fs0.length anyFact = f := by
      have := congrArg (fun x => x[fs0.length]?) ht
      simp only [List.getElem?_take, List.getElem?_append_right (Nat.le_refl _), Nat.sub_self] at this
      rw [if_pos (by omega)] at this
      rw [List.getD_eq_getElem?_getD, this]
      rfl
    refine ⟨fs, by simp at hl ⊢; omega, ht0, hR, fun i o' hi => ?_⟩
    cases i with
    | zero =>
      simp at hi
      subst hi
      rw [Nat.add_zero, hf, ht0]
      exact ⟨hst, hob⟩
    | succ i =>
      have := hall i o' (by simpa using hi)
      rw [show fs0.length + (i + 1) = fs0.length + 1 + i by omega]
      exact this

/-- The region's own form: no two operations write one slot, each waits for earlier ones alone, all slots are there; a store waits for its box, which waits for nothing, and no two fill one. -/
def listM (n m : Nat) : Array Bool := ((List.range n).map fun i => decide (i < m)).toArray
def slotsB (l : List Oper) (D T : List (Option Nat)) (n m : Nat) : Bool :=
  ((List.range l.length).all fun i => (List.range l.length).all fun j => i == j || dstOf D i == none || dstOf D i != dstOf D j) &&
  ((List.range l.length).all fun i => match l[i]? with | some o => o.after.all fun e => !Region.binds .any e || decide (e.on < i) | none => true) &&
  (D.all fun x => match x with | some d => decide (d < n) | none => true) && (l.map (·.dst) == D) &&
  ((List.range l.length).all fun k => match dstOf T k, l[k]? with | some i, some o => dep o i && !isSt T i && (match l[i]? with | some b => b.after.all fun e => !Region.binds .any e | none => false) && ((List.range l.length).all fun j => j == k || dstOf T j != some i) | _, _ => true) && (T.length == l.length) &&
  (decide (m ≤ l.length) && ((List.range l.length).all fun t => decide (t < m) || ((dstOf T t).isNone && match l[t]? with | some o => (List.range m).all fun j => dep o j | none => true)) && Region.seqB .any l.toArray (l.length - m) m (listM l.length m))

theorem eval_put_same (a : Act) (d : Tmp) (v : Value) (h : d < a.tmps.size) : (a.put (some d) v).eval (.tmp d) = v := by
  simp [Act.put, Act.eval, h]
theorem eval_put_other (a : Act) (dst : Option Tmp) (d : Tmp) (v : Value) (h : dst ≠ some d) : (a.put dst v).eval (.tmp d) = a.eval (.tmp d) := by
  cases dst with
  | none => rfl
  | some d' =>
    have hne : d' ≠ d := fun e => h (by rw [e])
    simp only [Act.put, Act.eval, Array.getD_eq_getD_getElem?, Array.getElem?_setIfInBounds, if_neg hne]
theorem size_put (a : Act) (dst : Option Tmp) (v : Value) : (a.put dst v).tmps.size = a.tmps.size := by
  cases dst <;> simp [Act.put]
theorem defers_put (a : Act) (dst : Option Tmp) (v : Value) : (a.put dst v).defers = a.defers := by
  cases dst <;> rfl

theorem count_set {l : List Bool} {i : Nat} (h : l[i]? = some false) : (l.set i true).count false + 1 = l.count false := by
  have hi : i < l.length := by
    rcases Nat.lt_or_ge i l.length with h' | h'
    · exact h'
    · rw [List.getElem?_eq_none h'] at h; cases h
  have he : l[i] = false := by
    have := List.getElem?_eq_getElem hi
    rw [h] at this
    injection this with this
    exact this.symm
  rw [List.count_set hi, he]
  have hpos : 0 < l.count false := List.count_pos_iff.2 (he ▸ List.getElem_mem hi)
  simp
  omega

/-- What holds while the region is under way: of what is listed. -/
structure Inv (w0 : World) (D T : List (Option Nat)) (n : Nat) (a0 : Act) (fs : List Fact) (listed : Nat → Bool) (a : Act) (W : World) (Zs : Nat → Foot) : Prop where
  bel : Below w0.heap.size w0 W
  fm : Fm n D a0 a
  rng : ∀ j, listed j = true → ∀ m, Zs j m → w0.heap.size ≤ m ∧ m < W.heap.size
  fact : ∀ j d, listed j = true → slotE D T j = some d → fs.getD j anyFact (a.eval (.tmp d)) (Zs j) W
  apart : ∀ j i, listed j = true → listed i = true → isBox T i = true → j ≠ i → dstOf T j ≠ some i → ∀ m, Zs j m → ¬ Zs i m
  tied : ∀ k i, listed k = true → dstOf T k = some i → listed i = true

theorem count_listM (n m : Nat) (h : m ≤ n) : ((listM n m).toList.count false) = n - m := by
  unfold listM
  simp only
  obtain ⟨k, rfl⟩ : ∃ k, n = m + k := ⟨n - m, by omega⟩
  rw [List.range_add, List.map_append, List.count_append]
  have h1 : ((List.range m).map fun i => decide (i < m)).count false = 0 := by
    rw [List.count_eq_zero]
    intro hm
    obtain ⟨i, hi, e⟩ := List.mem_map.1 hm
    have := List.mem_range.1 hi
    simp at e
    omega
  have h2 : (((List.range k).map (m + ·)).map fun i => decide (i < m)) = List.replicate k false := by
    rw [List.map_map]
    apply List.ext_getElem
    · simp
    · intro i h1 h2
      simp
  rw [h1, h2]
  simp

theorem isBox_of {T : List (Option Nat)} {k i : Nat} (h : dstOf T k = some i) : isBox T i = true := by
  unfold dstOf at h
  unfold isBox
  rw [List.any_eq_true]
  cases hk : T[k]? with
  | none => rw [hk] at h; cases h
  | some x => rw [hk] at h; exact ⟨x, List.mem_of_getElem? hk, by simpa using h⟩
theorem of_isBox {T : List (Option Nat)} {i : Nat} (h : isBox T i = true) : ∃ k, dstOf T k = some i := by
  unfold isBox at h
  rw [List.any_eq_true] at h
  obtain ⟨x, hx, e⟩ := h
  obtain ⟨k, hk⟩ := List.getElem?_of_mem hx
  refine ⟨k, ?_⟩
  unfold dstOf
  rw [hk]
  simpa using e

theorem region_tail {P : Program} {id : Nat} {l : List Oper} {a0 : Act} {w : World} {Q : Exit → Act → World → Prop} (D T : List (Option Nat)) (n m : Nat) (hm : P.follows .mixedOrders = true) (hB : slotsB l D T n m = true) (hz0 : a0.tmps.size = n) (hf0 : a0.defers = [])
    (h : Steps P w.drew D T n a0 Q (fun fs => ∀ (a : Act) (W : World) (Zs : Nat → Foot), Below w.drew.heap.size w.drew W → Fm n D a0 a → (∀ j, j < m → ∀ x, Zs j x → w.drew.heap.size ≤ x ∧ x < W.heap.size) → (∀ j d, j < m → slotE D T j = some d → fs.getD j anyFact (a.eval (.tmp d)) (Zs j) W) → wpList P l.toArray Q (l.drop m) a W) (l.take m) 0 []) : (Code.region id l.toArray true).wp P Q a0 w := by
  suffices H : ∀ w0 : World, Steps P w0 D T n a0 Q (fun fs => ∀ (a : Act) (W : World) (Zs : Nat → Foot), Below w0.heap.size w0 W → Fm n D a0 a → (∀ j, j < m → ∀ x, Zs j x → w0.heap.size ≤ x ∧ x < W.heap.size) → (∀ j d, j < m → slotE D T j = some d → fs.getD j anyFact (a.eval (.tmp d)) (Zs j) W) → wpList P l.toArray Q (l.drop m) a W) (l.take m) 0 [] → wpAny P .any l.toArray Q l.length (Array.replicate l.length false) a0 w0 by
    refine wp_region_any hm ?_
    have := H w.drew h
    simpa using this
  clear h
  intro w0 h
  obtain ⟨fs, hlen, _, hR, hall⟩ := steps_all (l.take m) [] h
  simp only [List.length_nil, Nat.zero_add] at hlen hall
  unfold slotsB at hB
  simp only [Bool.and_eq_true] at hB
  obtain ⟨⟨⟨⟨⟨⟨hd1, hd2⟩, hd3⟩, hd4⟩, hd5⟩, hd6⟩, ⟨hmle, hd7⟩, hseq⟩ := hB
  have hml : m ≤ l.length := by simpa using hmle
  replace hall : ∀ i o, i < m → l[i]? = some o → Good w0.heap.size (fs.getD i anyFact) ∧ Ob P w0 D T n a0 Q i o (fs.take i) (fs.getD i anyFact) := fun i o hi ho => hall i o (by rw [List.getElem?_take, if_pos hi]; exact ho)
  have htl : ∀ t o, m ≤ t → l[t]? = some o → dstOf T t = none ∧ ∀ j, j < m → dep o j = true := by
    intro t o ht ho
    have lt' : t < l.length := by
      rcases Nat.lt_or_ge t l.length with h' | h'
      · exact h'
      · rw [List.getElem?_eq_none h'] at ho; cases ho
    have h1 := List.all_eq_true.1 hd7 t (List.mem_range.2 lt')
    rw [ho] at h1
    simp only [Bool.or_eq_true, decide_eq_true_eq, Bool.and_eq_true] at h1
    rcases h1 with h1 | ⟨h1, h2⟩
    · omega
    · exact ⟨by simpa using h1, fun j hj => List.all_eq_true.1 h2 j (List.mem_range.2 hj)⟩
  have hD : l.map (·.dst) = D := by simpa using hd4
  have hDl : D.length = l.length := by rw [← hD]; simp
  have hTl : T.length = l.length := by simpa using hd6
  have dD : ∀ j, dstOf D j = (l[j]?).bind (·.dst) := by
    intro j
    unfold dstOf
    rw [← hD, List.getElem?_map]
    cases l[j]? <;> rfl
  have ltD : ∀ j d, dstOf D j = some d → j < l.length := by
    intro j d hj
    rcases Nat.lt_or_ge j l.length with h' | h'
    · exact h'
    · rw [dD, List.getElem?_eq_none h'] at hj; cases hj
  have ltT : ∀ j i, dstOf T j = some i → j < l.length := by
    intro j d hj
    rcases Nat.lt_or_ge j l.length with h' | h'
    · exact h'
    · unfold dstOf at hj; rw [List.getElem?_eq_none (by omega)] at hj; cases hj
  have hdist : ∀ i j d, dstOf D i = some d → dstOf D j = some d → i = j := by
    intro i j d hi hj
    have h1 := List.all_eq_true.1 (List.all_eq_true.1 hd1 i (List.mem_range.2 (ltD i d hi))) j (List.mem_range.2 (ltD j d hj))
    rw [hi, hj] at h1
    simpa using h1
  have hdep : ∀ i o, l[i]? = some o → ∀ e ∈ o.after, Region.binds .any e = true → e.on < i := by
    intro i o hi e he hb
    have li : i < l.length := by
      rcases Nat.lt_or_ge i l.length with h' | h'
      · exact h'
      · rw [List.getElem?_eq_none h'] at hi; cases hi
    have h1 := List.all_eq_true.1 hd2 i (List.mem_range.2 li)
    rw [hi] at h1
    have h2 := Array.all_eq_true_iff_forall_mem.1 h1 e he
    rw [hb] at h2
    simpa using h2
  have hdep2 : ∀ i o, l[i]? = some o → ∀ x, dep o x = true → x < i := by
    intro i o hi x hx
    unfold dep at hx
    obtain ⟨e, he', hbe⟩ := List.any_eq_true.1 hx
    simp only [Bool.and_eq_true, beq_iff_eq] at hbe
    have := hdep i o hi e (by simpa using he') hbe.1
    omega
  have hfit : ∀ j d, dstOf D j = some d → d < n ∧ ∀ k, (D.all fun x => x != some k) = true → k ≠ d := by
    intro j d hj
    unfold dstOf at hj
    cases hl : D[j]? with
    | none => rw [hl] at hj; cases hj
    | some x =>
      rw [hl] at hj
      have hx : x = some d := hj
      have h1 := List.all_eq_true.1 hd3 x (List.mem_of_getElem? hl)
      rw [hx] at h1
      simp only [decide_eq_true_eq] at h1
      refine ⟨h1, fun k hk e => ?_⟩
      have h2 := List.all_eq_true.1 hk x (List.mem_of_getElem? hl)
      rw [hx, e] at h2
      simp at h2
  have hst : ∀ k i o, dstOf T k = some i → l[k]? = some o → dep o i = true ∧ isSt T i = false ∧ (∃ b, l[i]? = some b ∧ ∀ x, dep b x = false) ∧ ∀ j, dstOf T j = some i → j = k := by
    intro k i o hk ho
    have h1 := List.all_eq_true.1 hd5 k (List.mem_range.2 (ltT k i hk))
    rw [hk, ho] at h1
    simp only [Bool.and_eq_true] at h1
    obtain ⟨⟨⟨h1, h2⟩, h3⟩, h4⟩ := h1
    refine ⟨h1, by simpa using h2, ?_, fun j hj => ?_⟩
    · cases hb : l[i]? with
      | none => rw [hb] at h3; simp at h3
      | some b =>
        refine ⟨b, rfl, fun x => ?_⟩
        rw [hb] at h3
        unfold dep
        rw [List.any_eq_false]
        intro e he hx
        have h5 := Array.all_eq_true_iff_forall_mem.1 h3 e (by simpa using he)
        simp only [Bool.and_eq_true] at hx
        rw [hx.1] at h5
        simp at h5
    · have h5 := List.all_eq_true.1 h4 j (List.mem_range.2 (ltT j i hj))
      rw [hj] at h5
      simpa using h5
  have hyield : ∀ a : Act, Fm n D a0 a → ∀ j, yielded l.toArray a.tmps j = yieldsOf D a j := by
    intro a hF j
    unfold yielded yieldsOf
    rw [dD, List.getElem?_toArray]
    cases hb : (l[j]?).bind (·.dst) with
    | none => rfl
    | some d =>
      have hlt : d < a.tmps.size := by rw [hF.size]; exact (hfit j d (by rw [dD]; exact hb)).1
      simp only [Option.bind_some, Array.getElem?_eq_getElem hlt, Act.eval, Array.getD_eq_getD_getElem?, Option.getD_some]
      cases a.tmps[d] <;> rfl
  have main : ∀ (fuel : Nat) (listed : Array Bool) (a : Act) (W : World) (Zs : Nat → Foot), Inv w0 D T n a0 fs (fun j => listed.getD j false) a W Zs → listed.size = l.length → (∀ t, m ≤ t → listed.getD t false = false) → listed.toList.count false = fuel →
      wpAny P .any l.toArray Q fuel listed a W := by
    intro fuel
    induction fuel with
    | zero =>
      intro listed a W Zs hI hsz htail hc
      have hno : ∀ j, listed.getD j true = true := by
        intro j
        cases hj : listed[j]? with
        | none => simp [hj]
        | some b =>
          cases b with
          | true => simp [hj]
          | false =>
            have : false ∈ listed.toList := List.mem_of_getElem? (by rw [Array.getElem?_toList]; exact hj)
            have := List.count_pos_iff.2 this
            omega
      have hin : ∀ j, j < l.length → listed.getD j false = true := by
        intro j lj
        have h1 := hno j
        have lj' : j < listed.size := by omega
        simp [lj'] at h1 ⊢
        exact h1
      have hmm : l.length ≤ m := by
        rcases Nat.lt_or_ge m l.length with h' | h'
        · have h1 := htail m (Nat.le_refl _)
          rw [hin m h'] at h1
          cases h1
        · exact h'
      have hR1 := hR a W Zs hI.bel hI.fm (fun j hj => hI.rng j (hin j (by omega))) fun j d hj hd => hI.fact j d (hin j (by omega)) hd
      rw [List.drop_eq_nil_of_le hmm] at hR1
      refine ⟨?_, hR1⟩
      rw [List.eq_nil_iff_forall_not_mem]
      intro j hj
      have := (mem_ready.1 hj).1
      rw [hno j] at this
      cases this
    | succ fuel ih =>
      intro listed a W Zs hI hsz htail hc
      by_cases hpre : ∀ j, j < m → listed.getD j false = true
      · have hli : listed = listM l.length m := by
          apply Array.ext
          · simp [listM, hsz]
          · intro i h1 h2
            have e1 : listed[i] = listed.getD i false := by simp [h1]
            rw [e1]
            simp only [listM, List.getElem_toArray, List.getElem_map, List.getElem_range]
            by_cases him : i < m
            · rw [hpre i him]; simp [him]
            · rw [htail i (by omega)]; simp; omega
        have hR1 := hR a W Zs hI.bel hI.fm (fun j hj => hI.rng j (hpre j hj)) fun j d hj hd => hI.fact j d (hpre j hj) hd
        have hcnt : (l.drop m).length = fuel + 1 := by
          rw [← hc, hli, List.length_drop]
          simp only [listM]
          have := count_listM l.length m hml
          simp only [listM] at this
          omega
        have := wpAny_of_seq (md := .any) (Q' := Q) (l.drop m) m listed a W (fun j => by simp [List.getElem?_drop]) (by rw [List.length_drop, hli]; exact hseq) hR1
        rw [hcnt] at this
        exact this
      have hsome : ∃ j, j < m ∧ j ∈ Region.ready .any l.toArray listed := by
        have hne : ∃ j, j < m ∧ listed.getD j false = false := by
          rcases Classical.em (∃ j, j < m ∧ listed.getD j false = false) with h' | h'
          · exact h'
          · exact absurd (fun j hj => by
              cases hq : listed.getD j false with
              | true => rfl
              | false => exact absurd ⟨j, hj, hq⟩ h') hpre
        obtain ⟨j0, hj0, hf⟩ := hne
        have : ∀ j, j ≤ j0 → listed.getD j false = false → ∃ i, i < m ∧ i ∈ Region.ready .any l.toArray listed := by
          intro j
          induction j using Nat.strongRecOn with
          | _ j ihj =>
            intro hjj hjf
            have lj : j < l.length := by omega
            have lj' : j < listed.size := by omega
            by_cases hd : ∀ e ∈ l[j].after, Region.binds .any e = true → listed.getD e.on false = true
            · exact ⟨j, by omega, by
                rw [mem_ready]
                exact ⟨by simp [lj'] at hjf ⊢; exact hjf, l[j], by simp [lj], hd⟩⟩
            · have : ∃ e, e ∈ l[j].after ∧ Region.binds .any e = true ∧ listed.getD e.on false = false := by
                rcases Classical.em (∃ e, e ∈ l[j].after ∧ Region.binds .any e = true ∧ listed.getD e.on false = false) with h' | h'
                · exact h'
                · exact absurd (fun e he hb => by
                    cases hq : listed.getD e.on false with
                    | true => rfl
                    | false => exact absurd ⟨e, he, hb, hq⟩ h') hd
              obtain ⟨e, he, hb, hf⟩ := this
              have := hdep j l[j] (List.getElem?_eq_getElem lj) e he hb
              exact ihj e.on this (by omega) hf
        exact this j0 (Nat.le_refl _) hf
      refine ⟨fun hr => ?_, fun i hi => ?_⟩
      · obtain ⟨j, _, hj⟩ := hsome
        rw [hr] at hj
        cases hj
      · obtain ⟨hun, o, ho, hdeps⟩ := mem_ready.1 hi
        have ho' : l[i]? = some o := by simpa using ho
        have li : i < l.length := by
          rcases Nat.lt_or_ge i l.length with h' | h'
          · exact h'
          · rw [List.getElem?_eq_none h'] at ho'; cases ho'
        have him : i < m := by
          rcases Nat.lt_or_ge i m with h' | h'
          · exact h'
          · exfalso
            refine hpre fun j hj => ?_
            have h2 := (htl i o h' ho').2 j hj
            unfold dep at h2
            obtain ⟨e, he', hbe⟩ := List.any_eq_true.1 h2
            simp only [Bool.and_eq_true, beq_iff_eq] at hbe
            have := hdeps e (by simpa using he') hbe.1
            rw [hbe.2] at this
            exact this
        have liz : i < listed.size := by omega
        have hnot : listed.getD i false = false := by simp [liz] at hun ⊢; exact hun
        have hdl : ∀ x, dep o x = true → listed.getD x false = true := by
          intro x hx
          unfold dep at hx
          obtain ⟨e, he', hbe⟩ := List.any_eq_true.1 hx
          simp only [Bool.and_eq_true, beq_iff_eq] at hbe
          have := hdeps e (by simpa using he') hbe.1
          rw [hbe.2] at this
          exact this
        obtain ⟨_, hob⟩ := hall i o him ho'
        have hob1 := hob a W Zs hI.bel hI.fm (fun x m hx hz => hI.rng x (hdl x hx) m hz) (fun j d hj hd => by
          have hlt := hdep2 i o ho' j hj
          rw [List.getD_eq_getElem?_getD, List.getElem?_take, if_pos hlt, ← List.getD_eq_getElem?_getD]
          exact hI.fact j d (hdl j hj) hd)
        have hcount := count_set (l := listed.toList) (i := i) (by
          rw [Array.getElem?_toList]
          simp [liz] at hun ⊢
          exact hun)
        have hl2 : ∀ x, (listed.setIfInBounds i true).getD x false = if x = i then true else listed.getD x false := by
          intro x
          rw [Array.getD_eq_getD_getElem?, Array.getElem?_setIfInBounds]
          by_cases hx : i = x
          · subst hx
            simp [liz]
          · rw [if_neg hx, if_neg (fun e => hx e.symm), Array.getD_eq_getD_getElem?]
        -- the frame, and the slots of older facts
        have fm2 : ∀ v, Fm n D a0 (a.put o.dst v) := fun v => ⟨by rw [size_put]; exact hI.fm.size, by rw [defers_put]; exact hI.fm.defers, fun k hk => by
          rw [eval_put_other a o.dst k v (fun e => (hfit i k (by rw [dD, ho']; exact e)).2 k hk rfl)]
          exact hI.fm.old k hk⟩
        have keepS : ∀ v j d, listed.getD j false = true → slotE D T j = some d → (a.put o.dst v).eval (.tmp d) = a.eval (.tmp d) := by
          intro v j d hj hd
          refine eval_put_other a o.dst d v fun e => ?_
          have e1 : dstOf D i = some d := by rw [dD, ho']; exact e
          unfold slotE at hd
          cases ht : dstOf T j with
          | none =>
            rw [ht] at hd
            have := hdist i j d e1 hd
            rw [← this, hnot] at hj
            cases hj
          | some x =>
            rw [ht] at hd
            have := hdist i x d e1 hd
            have hx := hI.tied j x hj ht
            rw [← this, hnot] at hx
            cases hx
        have hlm : ∀ j, listed.getD j false = true → j < m := by
          intro j hj
          rcases Nat.lt_or_ge j m with h' | h'
          · exact h'
          · rw [htail j h'] at hj; cases hj
        have htail2 : ∀ t, m ≤ t → (listed.setIfInBounds i true).getD t false = false := by
          intro t ht
          rw [hl2, if_neg (by omega)]
          exact htail t ht
        have hcount2 : (listed.setIfInBounds i true).toList.count false = fuel := by rw [Array.toList_setIfInBounds]; omega
        have goodj : ∀ j, listed.getD j false = true → Good w0.heap.size (fs.getD j anyFact) := by
          intro j hj
          have lj : j < l.length := by have := hlm j hj; omega
          exact (hall j l[j] (hlm j hj) (List.getElem?_eq_getElem lj)).1
        cases hT : dstOf T i with
        | none =>
          rw [hT] at hob1
          -- whatever it yields: the world grew, the facts hold on
          have go : ∀ v W' (Z' : Foot), fs.getD i anyFact v Z' W' → Below W.heap.size W W' → (∀ m, Z' m → (W.heap.size ≤ m ∧ m < W'.heap.size) ∨ footD T o Zs m) → wpAny P .any l.toArray Q fuel (listed.setIfInBounds i true) (a.put o.dst v) W' := by
            intro v W' Z' hv hb hZ
            have hag : ∀ Z, Agree w0.heap.size Z W W' := fun Z => ⟨hb.size, fun m hm _ => hb.block m hm⟩
            have hrange : ∀ m, Z' m → w0.heap.size ≤ m ∧ m < W'.heap.size := by
              intro m hm
              rcases hZ m hm with ⟨h1, h2⟩ | ⟨x, hx, _, _, hz⟩
              · exact ⟨Nat.le_trans hI.bel.size h1, h2⟩
              · have := hI.rng x (hdl x hx) m hz
                exact ⟨this.1, Nat.lt_of_lt_of_le this.2 hb.size⟩
            refine ih _ _ W' (fun x => if x = i then Z' else Zs x) ⟨hI.bel.trans (hb.mono hI.bel.size), fm2 v, ?_, ?_, ?_, ?_⟩ (by simpa using hsz) htail2 hcount2
            · intro j hj m hz
              simp only [hl2] at hj
              by_cases hji : j = i
              · simp only [if_pos hji] at hz
                exact hrange m hz
              · simp only [if_neg hji] at hz hj
                have := hI.rng j hj m hz
                exact ⟨this.1, Nat.lt_of_lt_of_le this.2 hb.size⟩
            · intro j d hj hd
              simp only [hl2] at hj
              by_cases hji : j = i
              · simp only [if_pos hji]
                subst hji
                have hd' : o.dst = some d := by unfold slotE at hd; rw [hT] at hd; rw [dD, ho'] at hd; exact hd
                rw [hd', eval_put_same a d v (by rw [hI.fm.size]; exact (hfit j d (by rw [dD, ho']; exact hd')).1)]
                exact hv
              · simp only [if_neg hji] at hj ⊢
                rw [keepS v j d hj hd]
                exact goodj j hj _ _ _ _ (hI.fact j d hj hd) (hag _)
            · intro j x hj hx hbx hne hnt m hz1 hz2
              simp only [hl2] at hj hx
              by_cases hji : j = i
              · by_cases hxi : x = i
                · omega
                · simp only [if_pos hji] at hz1
                  simp only [if_neg hxi] at hz2 hx
                  rcases hZ m hz1 with ⟨h1, h2⟩ | ⟨y, hy, hyb, hys, hz⟩
                  · have := (hI.rng x hx m hz2).2; omega
                  · refine hI.apart y x (hdl y hy) hx hbx (fun e => ?_) (fun e => ?_) m hz hz2
                    · rw [e, hbx] at hyb; cases hyb
                    · unfold isSt at hys; rw [e] at hys; cases hys
              · simp only [if_neg hji] at hz1 hj
                by_cases hxi : x = i
                · simp only [if_pos hxi] at hz2
                  subst hxi
                  obtain ⟨k, hk⟩ := of_isBox hbx
                  have lk := ltT k x hk
                  obtain ⟨_, _, ⟨b, hb1, hb2⟩, _⟩ := hst k x l[k] hk (List.getElem?_eq_getElem lk)
                  rw [ho'] at hb1
                  injection hb1 with hb1
                  rcases hZ m hz2 with ⟨h1, h2⟩ | ⟨y, hy, _, _, hz⟩
                  · have := (hI.rng j hj m hz1).2; omega
                  · rw [hb1, hb2] at hy; cases hy
                · simp only [if_neg hxi] at hz2 hx
                  exact hI.apart j x hj hx hbx hne hnt m hz1 hz2
            · intro k x hk hkx
              simp only [hl2] at hk ⊢
              by_cases hxi : x = i
              · simp [hxi]
              · rw [if_neg hxi]
                by_cases hki : k = i
                · rw [hki, hT] at hkx; cases hkx
                · simp only [if_neg hki] at hk
                  exact hI.tied k x hk hkx
          rcases hob1 with ⟨hw, hrun⟩ | ⟨hw, hf⟩
          · have hw' : Region.wanted o (yielded l.toArray a.tmps) = true := by
              rw [show yielded l.toArray a.tmps = yieldsOf D a from funext (hyield a hI.fm)]
              exact hw
            unfold wpOp
            simp only [ho, hw', if_true]
            exact .inl (hrun _ fun v W' hv hb => go v W' _ hv hb (fun m hm => hm))
          · have hw' : Region.wanted o (yielded l.toArray a.tmps) = false := by
              rw [show yielded l.toArray a.tmps = yieldsOf D a from funext (hyield a hI.fm)]
              exact hw
            unfold wpOp
            simp only [ho, hw', Bool.false_eq_true, if_false]
            exact go undef W _ hf (Below.refl _ _) (fun m hm => .inr hm)
        | some bx =>
          rw [hT] at hob1
          obtain ⟨hdb, hsb, ⟨bo, hbo, _⟩, huniq⟩ := hst i bx o hT ho'
          have hlb := hdl bx hdb
          obtain ⟨hw, b, hzb, hrun⟩ := hob1 fun x m hx hxb hz => hI.apart x bx (hdl x hx) hlb (isBox_of hT) hxb (fun e => by have := huniq x e; have := hdep2 i o ho' x hx; omega) m hz
          have hbr := hI.rng bx hlb b hzb
          have hw' : Region.wanted o (yielded l.toArray a.tmps) = true := by
            rw [show yielded l.toArray a.tmps = yieldsOf D a from funext (hyield a hI.fm)]
            exact hw
          unfold wpOp
          simp only [ho, hw', if_true]
          refine .inl (hrun _ fun v W' hO hf => ?_)
          have hne : bx ≠ i := by have := hdep2 i o ho' bx hdb; omega
          refine ih _ _ W' (fun x => if x = i then (fun m => m = b ∨ footD T o Zs m) else Zs x) ⟨hO.below hI.bel hbr.1, fm2 v, ?_, ?_, ?_, ?_⟩ (by simpa using hsz) htail2 hcount2
          · intro j hj m hz
            simp only [hl2] at hj
            rw [hO.size]
            by_cases hji : j = i
            · simp only [if_pos hji] at hz
              rcases hz with rfl | ⟨x, hx, _, _, hz⟩
              · exact hbr
              · exact hI.rng x (hdl x hx) m hz
            · simp only [if_neg hji] at hz hj
              exact hI.rng j hj m hz
          · intro j d hj hd
            simp only [hl2] at hj
            by_cases hji : j = i
            · simp only [if_pos hji]
              subst hji
              have hd1 : dstOf D bx = some d := by unfold slotE at hd; rw [hT] at hd; exact hd
              rw [keepS v bx d hlb (by unfold slotE; unfold isSt at hsb; cases hq : dstOf T bx with
                | none => exact hd1
                | some y => rw [hq] at hsb; cases hsb)]
              exact (hf d hd1).1
            · simp only [if_neg hji] at hj ⊢
              rw [keepS v j d hj hd]
              by_cases hjb : j = bx
              · have hd1 : dstOf D bx = some d := by
                  rw [hjb] at hd
                  unfold slotE at hd
                  unfold isSt at hsb
                  cases hq : dstOf T bx with
                  | none => rw [hq] at hd; exact hd
                  | some y => rw [hq] at hsb; cases hsb
                have := (hf d hd1).2
                have hlt := hdep2 i o ho' bx hdb
                rw [List.getD_eq_getElem?_getD, List.getElem?_take, if_pos hlt, ← List.getD_eq_getElem?_getD] at this
                rw [hjb]
                exact this
              · refine goodj j hj _ _ _ _ (hI.fact j d hj hd) ⟨by rw [hO.size]; exact Nat.le_refl _, fun m hm hmz => hO.rest m fun e => ?_⟩
                subst e
                rcases hmz with h1 | h1
                · omega
                · exact hI.apart j bx hj hlb (isBox_of hT) hjb (fun e => hji (huniq j e)) m h1 hzb
          · intro j x hj hx hbx hnejx hnt m hz1 hz2
            simp only [hl2] at hj hx
            have hix : isBox T i = false := by
              cases hq : isBox T i with
              | false => rfl
              | true =>
                obtain ⟨k, hk⟩ := of_isBox hq
                have lk := ltT k i hk
                obtain ⟨_, h2, _, _⟩ := hst k i l[k] hk (List.getElem?_eq_getElem lk)
                unfold isSt at h2
                rw [hT] at h2
                cases h2
            have hxi : x ≠ i := fun e => by rw [e, hix] at hbx; cases hbx
            simp only [if_neg hxi] at hz2 hx
            by_cases hji : j = i
            · simp only [if_pos hji] at hz1
              rw [hji, hT] at hnt
              have hxb : bx ≠ x := fun e => hnt (by rw [e])
              rcases hz1 with rfl | ⟨y, hy, hyb, hys, hz⟩
              · refine hI.apart bx x hlb hx hbx hxb (fun e => ?_) m hzb hz2
                unfold isSt at hsb
                rw [e] at hsb
                cases hsb
              · refine hI.apart y x (hdl y hy) hx hbx (fun e => ?_) (fun e => ?_) m hz hz2
                · rw [e, hbx] at hyb; cases hyb
                · unfold isSt at hys; rw [e] at hys; cases hys
            · simp only [if_neg hji] at hz1 hj
              exact hI.apart j x hj hx hbx hnejx hnt m hz1 hz2
          · intro k x hk hkx
            simp only [hl2] at hk ⊢
            by_cases hxi : x = i
            · simp [hxi]
            · rw [if_neg hxi]
              by_cases hki : k = i
              · rw [hki, hT] at hkx
                injection hkx with hkx
                rw [← hkx]
                exact hlb
              · simp only [if_neg hki] at hk
                exact hI.tied k x hk hkx
  have hl0 : ∀ j, ¬ (Array.replicate l.length false).getD j false = true := by
    intro j hj
    rw [Array.getD_eq_getD_getElem?, Array.getElem?_replicate] at hj
    split at hj <;> simp at hj
  have := main l.length (Array.replicate l.length false) a0 w0 (fun _ _ => False) ⟨Below.refl _ _, ⟨hz0, hf0, fun _ _ => rfl⟩, fun j hj => absurd hj (hl0 j), fun j d hj => absurd hj (hl0 j), fun j i hj => absurd hj (hl0 j), fun k i hk => absurd hk (hl0 k)⟩ (by simp) (fun t _ => by cases hq : (Array.replicate l.length false).getD t false with | false => rfl | true => exact absurd hq (hl0 t)) (by simp)
  exact this

theorem region_slots {P : Program} {id : Nat} {l : List Oper} {a0 : Act} {w : World} {Q : Exit → Act → World → Prop} (D T : List (Option Nat)) (n m : Nat) (hl : l.length = m) (hm : P.follows .mixedOrders = true) (hB : slotsB l D T n m = true) (hz0 : a0.tmps.size = n) (hf0 : a0.defers = [])
    (h : Steps P w.drew D T n a0 Q (fun fs => ∀ (a : Act) (W : World) (Zs : Nat → Foot), Below w.drew.heap.size w.drew W → Fm n D a0 a → (∀ j, j < m → ∀ x, Zs j x → w.drew.heap.size ≤ x ∧ x < W.heap.size) → (∀ j d, j < m → slotE D T j = some d → fs.getD j anyFact (a.eval (.tmp d)) (Zs j) W) → Q .normal a W) l 0 []) : (Code.region id l.toArray true).wp P Q a0 w := by
  subst hl
  refine region_tail D T n l.length hm hB hz0 hf0 ?_
  rw [List.take_length, List.drop_length]
  exact h

/-- A slot's value as the walk looks it up. -/
theorem ev_get {n k : Nat} {a : Act} {v : Value} (hs : a.tmps.size = n) (h : a.eval (.tmp k) = v) (hk : k < n := by decide) : a.tmps[k]? = some v := by
  have hlt : k < a.tmps.size := by omega
  rw [← h]
  simp [Act.eval, hlt]

end Go.Proofs.YthhmedlefahccaaGreatDoor
/-
  Facts of slots: what operations of a region yield, and where it lies.
-/
namespace Go.Proofs.YthhmedlefahccaaGreatDoor
open Go.RowKit Plait
set_option maxRecDepth 100000
set_option linter.unusedVariables false

theorem cell_agree {W W' : World} {b : Nat} (h : W'.heap[b]? = W.heap[b]?) (o : Nat) : W'.cell? ⟨b, o, none⟩ = W.cell? ⟨b, o, none⟩ := by simp [World.cell?, h]

/-- Where a row lies. -/
def Ft (B : Nat) (Z : Foot) (a : Option Addr) : Prop := ∀ x, a = some x → x.block < B ∨ Z x.block
theorem Ft.mono {B : Nat} {Z Z' : Foot} {a : Option Addr} (h : Ft B Z a) (hz : ∀ m, Z m → Z' m) : Ft B Z' a := fun x hx => (h x hx).imp id (hz _)
theorem ft_mono {B : Nat} {Z Z' : Foot} {a : Option Addr} {p : Prop} (h : p ∨ Ft B Z a) (hz : ∀ m, Z m → Z' m) : p ∨ Ft B Z' a := h.imp id fun h => h.mono hz
theorem foot_dep {T : List (Option Nat)} {o : Oper} {Zs : Nat → Foot} {W W' : World} (i : Nat) (h1 : dep o i = true) (h2 : isBox T i = false) (h3 : isSt T i = false) : ∀ m, Zs i m → footN T o Zs W W' m := fun m hm => .inr ⟨i, h1, h2, h3, hm⟩
theorem foot_depS {T : List (Option Nat)} {o : Oper} {Zs : Nat → Foot} {b : Nat} (i : Nat) (h1 : dep o i = true) (h2 : isBox T i = false) (h3 : isSt T i = false) : ∀ m, Zs i m → (m = b ∨ footD T o Zs m) := fun m hm => .inr ⟨i, h1, h2, h3, hm⟩

theorem Row.agree {B : Nat} {Z : Foot} {W W' : World} {a : Option Addr} {zs : List Int} (h : Row W a zs) (hf : zs = [] ∨ Ft B Z a) (hA : Agree B Z W W') : Row W' a zs := by
  obtain ⟨h1, h2, h3⟩ := h
  refine ⟨h1, h2, ?_⟩
  rcases hf with hf | hf
  · exact .inl hf
  · rcases h3 with h3 | ⟨b, off, rfl, hlt, hc⟩
    · exact .inl h3
    · exact .inr ⟨b, off, rfl, Nat.lt_of_lt_of_le hlt hA.1, fun i hi => by rw [cell_agree (hA.2 b hlt (hf _ rfl))]; exact hc i hi⟩
theorem Row.foot {B : Nat} {T : List (Option Nat)} {o : Oper} {Zs : Nat → Foot} {W W' : World} {a : Option Addr} {zs : List Int} (h : Row W' a zs) (hf : ∀ x, a = some x → W.heap.size ≤ x.block) : zs = [] ∨ Ft B (footN T o Zs W W') a := by
  rcases h.2.2 with h3 | ⟨b, off, rfl, hlt, hc⟩
  · exact .inl h3
  · refine .inr fun x hx => .inr (.inl ⟨hf x hx, ?_⟩)
    injection hx with hx
    subst hx
    exact hlt
theorem RowT.agree {B : Nat} {Z : Foot} {W W' : World} {a : Option Addr} {ts : List It} (h : RowT W a ts) (hf : ts = [] ∨ Ft B Z a) (hA : Agree B Z W W') : RowT W' a ts := by
  obtain ⟨h1, h2, h3⟩ := h
  refine ⟨h1, h2, ?_⟩
  rcases hf with hf | hf
  · exact .inl hf
  · rcases h3 with h3 | ⟨b, off, rfl, hlt, hc⟩
    · exact .inl h3
    · exact .inr ⟨b, off, rfl, Nat.lt_of_lt_of_le hlt hA.1, fun i hi => by rw [cell_agree (hA.2 b hlt (hf _ rfl)), cell_agree (hA.2 b hlt (hf _ rfl))]; exact hc i hi⟩
theorem RowT.foot {B : Nat} {T : List (Option Nat)} {o : Oper} {Zs : Nat → Foot} {W W' : World} {a : Option Addr} {ts : List It} (h : RowT W' a ts) (hf : ∀ x, a = some x → W.heap.size ≤ x.block) : ts = [] ∨ Ft B (footN T o Zs W W') a := by
  rcases h.2.2 with h3 | ⟨b, off, rfl, hlt, hc⟩
  · exact .inl h3
  · refine .inr fun x hx => .inr (.inl ⟨hf x hx, ?_⟩)
    injection hx with hx
    subst hx
    exact hlt
theorem Blk.agree {B : Nat} {Z : Foot} {W W' : World} {b : Nat} {t : TypeId} {cs : Array Value} (h : Blk W b t cs) (hf : b < B ∨ Z b) (hA : Agree B Z W W') : Blk W' b t cs := (hA.2 b h.lt hf).trans h
theorem Only.agree {B b : Nat} {Z : Foot} {W W' : World} (h : Only b W W') (hB : B ≤ b) (hz : ∀ m, Z m → m ≠ b) : Agree B Z W W' := ⟨by rw [h.size]; exact Nat.le_refl _, fun n hn hm => h.rest n (by
  rcases hm with hm | hm
  · omega
  · exact hz n hm)⟩

section
variable {P : Program} {w0 : World} {D T : List (Option Nat)} {n : Nat} {a0 : Act} {Q : Exit → Act → World → Prop} {R : List Fact → Prop} {o : Oper} {rest : List Oper} {j : Nat} {fs : List Fact}
theorem step_of (f : Fact) (hg : Good w0.heap.size f) (h : Ob P w0 D T n a0 Q j o fs f) (hn : Steps P w0 D T n a0 Q R rest (j + 1) (fs ++ [f])) : Steps P w0 D T n a0 Q R (o :: rest) j fs := ⟨f, hg, h, hn⟩
/-- An operation that yields one value. -/
theorem step_fix {c : Value} (h : Ob P w0 D T n a0 Q j o fs fun v _ _ => v = c) (hn : Steps P w0 D T n a0 Q R rest (j + 1) (fs ++ [fun v _ _ => v = c])) : Steps P w0 D T n a0 Q R (o :: rest) j fs :=
  ⟨_, fun _ _ _ _ h _ => h, h, hn⟩
/-- One of whose value nothing is asked. -/
theorem step_triv (h : Ob P w0 D T n a0 Q j o fs anyFact) (hn : Steps P w0 D T n a0 Q R rest (j + 1) (fs ++ [anyFact])) : Steps P w0 D T n a0 Q R (o :: rest) j fs := ⟨_, fun _ _ _ _ _ _ => trivial, h, hn⟩

def rowF (B : Nat) (zs : List Int) : Fact := fun v Z W => ∃ a cap, v = .slice a zs.length cap ∧ Row W a zs ∧ (zs = [] ∨ Ft B Z a)
theorem rowF_good (B : Nat) (zs : List Int) : Good B (rowF B zs) := fun v Z W W' ⟨a, cap, e, hr, hf⟩ hA => ⟨a, cap, e, hr.agree hf hA, hf⟩
def rowTF (B : Nat) (ts : List It) : Fact := fun v Z W => ∃ a cap, v = .slice a ts.length cap ∧ RowT W a ts ∧ (ts = [] ∨ Ft B Z a)
theorem rowTF_good (B : Nat) (ts : List It) : Good B (rowTF B ts) := fun v Z W W' ⟨a, cap, e, hr, hf⟩ hA => ⟨a, cap, e, hr.agree hf hA, hf⟩
/-- The same, and that the row is new. -/
def rowTNF (B : Nat) (ts : List It) : Fact := fun v Z W => ∃ a cap, v = .slice a ts.length cap ∧ RowT W a ts ∧ (ts = [] ∨ Ft B Z a) ∧ (∀ x, a = some x → B ≤ x.block)
theorem rowTNF_good (B : Nat) (ts : List It) : Good B (rowTNF B ts) := fun v Z W W' ⟨a, cap, e, hr, hf, hn⟩ hA => ⟨a, cap, e, hr.agree hf hA, hf, hn⟩
/-- A network, a frame as values; what Read answers. -/
def cfF (B : Nat) (c : Cf) : Fact := fun v Z W => ∃ a cap, v = .agg #[.int .i64 c.N, .int .i64 c.Pi, .int .i64 c.E, .int .i64 c.G, .int .i64 c.F, .slice a c.P.length cap] ∧ Row W a c.P ∧ (c.P = [] ∨ Ft B Z a)
theorem cfF_good (B : Nat) (c : Cf) : Good B (cfF B c) := fun v Z W W' ⟨a, cap, e, hr, hf⟩ hA => ⟨a, cap, e, hr.agree hf hA, hf⟩
def frF (B : Nat) (g : Fr) : Fact := fun v Z W => ∃ a cap, v = .agg #[.int .i64 g.K, .int .i64 g.R, .int .i64 g.S, .int .i64 g.P.K, .int .i64 g.P.V, .slice a g.E.length cap] ∧ RowT W a g.E ∧ (g.E = [] ∨ Ft B Z a)
theorem frF_good (B : Nat) (g : Fr) : Good B (frF B g) := fun v Z W W' ⟨a, cap, e, hr, hf⟩ hA => ⟨a, cap, e, hr.agree hf hA, hf⟩
def rdF (B : Nat) (g : Fr) (er : Int) : Fact := fun v Z W => ∃ a cap, v = .tuple #[.agg #[.int .i64 g.K, .int .i64 g.R, .int .i64 g.S, .int .i64 g.P.K, .int .i64 g.P.V, .slice a g.E.length cap], .int .i64 er] ∧ RowT W a g.E ∧ (g.E = [] ∨ Ft B Z a)
theorem rdF_good (B : Nat) (g : Fr) (er : Int) : Good B (rdF B g er) := fun v Z W W' ⟨a, cap, e, hr, hf⟩ hA => ⟨a, cap, e, hr.agree hf hA, hf⟩
/-- A block that the region made, as a slice; the address of one of its cells; a box. -/
def blkF (B : Nat) (m : Nat) (t : TypeId) (cs : Array Value) : Fact := fun v Z W => ∃ b, v = .slice (some ⟨b, 0, none⟩) m m ∧ Blk W b t cs ∧ (b < B ∨ Z b)
theorem blkF_good (B m : Nat) (t : TypeId) (cs : Array Value) : Good B (blkF B m t cs) := fun v Z W W' ⟨b, e, hr, hf⟩ hA => ⟨b, e, hr.agree hf hA, hf⟩
theorem step_blk {m : Nat} {t : TypeId} {cs : Array Value} (h : Ob P w0 D T n a0 Q j o fs (blkF w0.heap.size m t cs)) (hn : Steps P w0 D T n a0 Q R rest (j + 1) (fs ++ [blkF w0.heap.size m t cs])) : Steps P w0 D T n a0 Q R (o :: rest) j fs := ⟨_, blkF_good _ _ _ _, h, hn⟩
def ptrF (B : Nat) (k : Nat) (t : TypeId) (cs : Array Value) : Fact := fun v Z W => ∃ b, v = .pointer (some ⟨b, k, none⟩) ∧ Blk W b t cs ∧ (b < B ∨ Z b)
theorem ptrF_good (B k : Nat) (t : TypeId) (cs : Array Value) : Good B (ptrF B k t cs) := fun v Z W W' ⟨b, e, hr, hf⟩ hA => ⟨b, e, hr.agree hf hA, hf⟩
theorem step_ptr {k : Nat} {t : TypeId} {cs : Array Value} (h : Ob P w0 D T n a0 Q j o fs (ptrF w0.heap.size k t cs)) (hn : Steps P w0 D T n a0 Q R rest (j + 1) (fs ++ [ptrF w0.heap.size k t cs])) : Steps P w0 D T n a0 Q R (o :: rest) j fs := ⟨_, ptrF_good _ _ _ _, h, hn⟩
def boxF (B : Nat) (t : TypeId) (m : Nat) : Fact := fun v Z W => ∃ b cs, v = .pointer (some ⟨b, 0, none⟩) ∧ Array.size cs = m ∧ Blk W b t cs ∧ Z b
theorem boxF_good (B : Nat) (t : TypeId) (m : Nat) : Good B (boxF B t m) := fun v Z W W' ⟨b, cs, e, hm, hr, hf⟩ hA => ⟨b, cs, e, hm, hr.agree (.inr hf) hA, hf⟩
/-- A box that was filled. -/
def litF (B : Nat) (t : TypeId) (cs : Array Value) : Fact := fun v Z W => ∃ b, v = .pointer (some ⟨b, 0, none⟩) ∧ Blk W b t cs ∧ (b < B ∨ Z b)
theorem litF_good (B : Nat) (t : TypeId) (cs : Array Value) : Good B (litF B t cs) := fun v Z W W' ⟨b, e, hr, hf⟩ hA => ⟨b, e, hr.agree hf hA, hf⟩
theorem step_lit {t : TypeId} {cs : Array Value} (h : Ob P w0 D T n a0 Q j o fs (litF w0.heap.size t cs)) (hn : Steps P w0 D T n a0 Q R rest (j + 1) (fs ++ [litF w0.heap.size t cs])) : Steps P w0 D T n a0 Q R (o :: rest) j fs := ⟨_, litF_good _ _ _, h, hn⟩

/-- A frame's box. -/
def frBoxF (B : Nat) (g : Fr) : Fact := fun v Z W => ∃ b a cap, v = .pointer (some ⟨b, 0, none⟩) ∧ Blk W b 32 (frBox g a cap) ∧ RowT W a g.E ∧ (b < B ∨ Z b) ∧ (g.E = [] ∨ Ft B Z a)
theorem frBoxF_good (B : Nat) (g : Fr) : Good B (frBoxF B g) := fun v Z W W' ⟨b, a, cap, e, hk, hr, hf, hf2⟩ hA => ⟨b, a, cap, e, hk.agree hf hA, hr.agree hf2 hA, hf, hf2⟩

/-- A network's box. -/
def cfBoxF (B : Nat) (c : Cf) : Fact := fun v Z W => ∃ b a cap, v = .pointer (some ⟨b, 0, none⟩) ∧ Blk W b 24 (confBox c a cap) ∧ Row W a c.P ∧ (b < B ∨ Z b) ∧ (c.P = [] ∨ Ft B Z a)
theorem cfBoxF_good (B : Nat) (c : Cf) : Good B (cfBoxF B c) := fun v Z W W' ⟨b, a, cap, e, hk, hr, hf, hf2⟩ hA => ⟨b, a, cap, e, hk.agree hf hA, hr.agree hf2 hA, hf, hf2⟩

theorem wanted_at {i : Nat} {b : Bool} {d : Tmp} {a : Act} (h : o.guard = some (i, b)) (hd : dstOf D i = some d) (hv : a.eval (.tmp d) = .bool b) : Region.wanted o (yieldsOf D a) = true := by simp [Region.wanted, h, yieldsOf, hd, hv]
theorem wanted_not {i : Nat} {b : Bool} {d : Tmp} {a : Act} (h : o.guard = some (i, b)) (hd : dstOf D i = some d) (hv : a.eval (.tmp d) = .bool (!b)) : Region.wanted o (yieldsOf D a) = false := by simp [Region.wanted, h, yieldsOf, hd, hv]
theorem wanted_none (h : o.guard = none) (y : Nat → Option Bool) : Region.wanted o y = true := by simp [Region.wanted, h]
end

theorem arr6 {cs : Array Value} (h : cs.size = 6) : ∃ u0 u1 u2 u3 u4 u5, cs = #[u0, u1, u2, u3, u4, u5] :=
  ⟨cs[0], cs[1], cs[2], cs[3], cs[4], cs[5], by
    apply Array.ext
    · simp [h]
    · intro i h1 h2
      rcases (by omega : i = 0 ∨ i = 1 ∨ i = 2 ∨ i = 3 ∨ i = 4 ∨ i = 5) with rfl | rfl | rfl | rfl | rfl | rfl <;> rfl⟩
/-- A box of six cells, filled. -/
theorem Blk.fill6 {w : World} {g : Nat} {t : TypeId} {x0 x1 x2 x3 x4 x5 : Value} (h : Blk w g t #[x0, x1, x2, x3, x4, x5]) (u0 u1 u2 u3 u4 u5 : Value) :
    Blk ((((((w.setCell ⟨g, 0, none⟩ u0).setCell ⟨g, 1, none⟩ u1).setCell ⟨g, 2, none⟩ u2).setCell ⟨g, 3, none⟩ u3).setCell ⟨g, 4, none⟩ u4).setCell ⟨g, 5, none⟩ u5) g t #[u0, u1, u2, u3, u4, u5] :=
  ((((((h.set 0 u0).set 1 u1).set 2 u2).set 3 u3).set 4 u4).set 5 u5)
theorem Only.fill6 (w : World) (g : Nat) (u0 u1 u2 u3 u4 u5 : Value) : Only g w ((((((w.setCell ⟨g, 0, none⟩ u0).setCell ⟨g, 1, none⟩ u1).setCell ⟨g, 2, none⟩ u2).setCell ⟨g, 3, none⟩ u3).setCell ⟨g, 4, none⟩ u4).setCell ⟨g, 5, none⟩ u5) :=
  ((((((Only.refl g w).set 0 u0).set 1 u1).set 2 u2).set 3 u3).set 4 u4).set 5 u5

/-- A frame of so many slots, written out. -/
theorem frame_lit (t : Array Value) (n : Nat) (h : t.size = n) (x : Nat → Value) (hx : ∀ i, t.getD i undef = x i) : t = ((List.range n).map x).toArray := by
  apply Array.ext
  · simp [h]
  · intro i h1 h2
    simp only [List.getElem_toArray, List.getElem_map, List.getElem_range]
    rw [← hx i]
    simp [h1]

/-- What a store into a box keeps, and where the box lies. -/
theorem store_apart {B : Nat} {o : Oper} {Zs : Nat → Foot} {W W' : World} {i b : Nat} (hO : Only b W W') (hB : B ≤ b) (hb : Zs i b) (hap : ∀ x m, dep o x = true → x ≠ i → Zs x m → ¬ Zs i m) (x : Nat) (hx : dep o x = true) (hne : x ≠ i) : Agree B (Zs x) W W' :=
  hO.agree hB fun m hm e => hap x m hx hne hm (e ▸ hb)

/-- A box that the region made is new. -/
theorem ptr_new {b b' lo hi : Nat} {v : Value} (e' : v = .pointer (some ⟨b', 0, none⟩)) (e : v = .pointer (some ⟨b, 0, none⟩)) (h : lo ≤ b' ∧ b' < hi) : lo ≤ b ∧ b < hi := by
  rw [e] at e'
  injection e' with e'
  injection e' with e'
  injection e' with e'
  subst e'
  exact h

end Go.Proofs.YthhmedlefahccaaGreatDoor
/-
  Rows of items: a store elsewhere, a store into one, a row appended to one that the call made itself.
-/
namespace Go.Proofs.YthhmedlefahccaaGreatDoor
open Go.RowKit Plait
set_option maxRecDepth 100000
set_option linter.unusedVariables false

theorem RowT.far2 {w : World} {a : Option Addr} {ts : List It} (h : RowT w a ts) (g i : Nat) (u : Value) (hne : ts = [] ∨ ∀ x, a = some x → x.block ≠ g) : RowT (w.setCell ⟨g, i, none⟩ u) a ts := by
  obtain ⟨h1, h2, h3⟩ := h
  refine ⟨h1, h2, ?_⟩
  rcases h3 with h3 | ⟨b, off, rfl, hlt, hc⟩
  · exact .inl h3
  · rcases hne with hne | hne
    · exact .inl hne
    · have hb : b ≠ g := hne _ rfl
      refine .inr ⟨b, off, rfl, by simpa [World.setCell] using hlt, fun i hi => ?_⟩
      rw [World.cell?_setCell_other _ _ _ _ (fun e => hb (by injection e with e1; exact e1.symm)), World.cell?_setCell_other _ _ _ _ (fun e => hb (by injection e with e1; exact e1.symm))]
      exact hc i hi

theorem RowT.setAt {w : World} {b off : Nat} {ts : List It} (h : RowT w (some ⟨b, off, none⟩) ts) (j : Nat) (hj : j < ts.length) (t : It) (hK : inI t.K) (hV : inI t.V) :
    RowT ((w.setCell ⟨b, off + j * 2, none⟩ (.int .i64 t.K)).setCell ⟨b, off + j * 2 + 1, none⟩ (.int .i64 t.V)) (some ⟨b, off, none⟩) (ts.set j t) := by
  obtain ⟨h1, h2, h3⟩ := h
  refine ⟨by rw [List.length_set]; exact h1, fun u hu => ?_, ?_⟩
  · rcases List.mem_or_eq_of_mem_set hu with h | h
    · exact h2 u h
    · rw [h]; exact ⟨hK, hV⟩
  · rcases h3 with h3 | ⟨b', off', e, hlt, hc⟩
    · rw [h3] at hj; simp at hj
    · injection e with e
      injection e with e1 e2
      subst e1 e2
      refine .inr ⟨b, off, rfl, by simpa [World.setCell] using hlt, fun i hi => ?_⟩
      have hi' : i < ts.length := by simpa using hi
      have ne : ∀ x y : Nat, x ≠ y → (⟨b, x, none⟩ : Addr) ≠ ⟨b, y, none⟩ := fun x y h e => h (by injection e)
      by_cases hij : i = j
      · subst hij
        have c1 := (hc i hi').1
        have c2 := (hc i hi').2
        constructor
        · rw [World.cell?_setCell_other _ _ _ _ (ne _ _ (by omega)), World.cell?_setCell_same _ _ _ c1]
          simp
        · rw [World.cell?_setCell_same (u := .int .i64 ts[i].V) _ _ _ (by rw [World.cell?_setCell_other _ _ _ _ (ne _ _ (by omega))]; exact c2)]
          simp
      · constructor
        · rw [World.cell?_setCell_other _ _ _ _ (ne _ _ (by omega)), World.cell?_setCell_other _ _ _ _ (ne _ _ (by omega)), (hc i hi').1, List.getElem_set_ne (by omega)]
        · rw [World.cell?_setCell_other _ _ _ _ (ne _ _ (by omega)), World.cell?_setCell_other _ _ _ _ (ne _ _ (by omega)), (hc i hi').2, List.getElem_set_ne (by omega)]

theorem OwnT.empty (w : World) (base : Nat) (hb : base ≤ w.heap.size) : OwnT base (w.alloc (.cells #[] 29)) (.slice (some ⟨w.heap.size, 0, none⟩) 0 0) [] := by
  have h := World.ownsRow_lit (base := base) (e := 29) (size := 2) w #[] 0 hb (by unfold maxLen; omega) (by simp)
  unfold OwnT
  simpa [itCells] using h

theorem itCells_one (ts : List It) : ∀ u ∈ itCells ts, u.oneCell' = true := by
  intro u hu
  unfold itCells at hu
  obtain ⟨t, _, h⟩ := List.mem_flatMap.1 hu
  simp at h
  rcases h with rfl | rfl <;> rfl

theorem run_appRT (w : World) (ty : TypeId) (base : Nat) (v : Value) (zs : List It) (hown : OwnT base w v zs) (A : Option Addr) (ys : List It) (c : Nat) (hr : RowT w A ys) (hlen : zs.length ≤ 1000000) (hlen2 : ys.length ≤ 1000000) (hbase : base ≤ w.heap.size) :
    ∃ v' w', (Builtin.append_ #[30, 30] ty #[v, .slice A ys.length c]).run Tryz.prog w = .ok v' w' ∧ OwnT base w' v' (zs ++ ys) ∧ w.grownBy w' v.ownBlock := by
  obtain ⟨i, hi, hz0, hz1, hz2⟩ := info_parts infoItem
  cases A with
  | none =>
    have hy : ys = [] := by
      rcases hr.2.2 with h | ⟨b, off, h, _⟩
      · exact h
      · cases h
    subst hy
    refine ⟨v, w, run_app_none w base _ ty 29 i 2 Tryz.underlying30 hi v zs.length _ hown c, by rw [List.append_nil]; exact hown, World.grownBy.refl w _⟩
  | some ad =>
    have hcells : ∀ j u, (itCells ys)[j]? = some u → w.cell? (ad.add j) = some u := by
      intro j u hu
      rcases hr.2.2 with h | ⟨b, off, h, _, hc⟩
      · subst h; simp [itCells] at hu
      · injection h with h
        subst h
        rw [addr_at]
        have hl := itCells_len ys
        have hj : j < ys.length * 2 := by
          rcases Nat.lt_or_ge j (ys.length * 2) with h' | h'
          · exact h'
          · rw [List.getElem?_eq_none (by omega)] at hu; cases hu
        obtain ⟨k, hk⟩ : ∃ k, j = k * 2 ∨ j = k * 2 + 1 := ⟨j / 2, by omega⟩
        rcases hk with rfl | rfl
        · have := (itCells_get ys k (by omega)).1
          rw [this] at hu
          rw [← hu]
          exact (hc k (by omega)).1
        · have := (itCells_get ys k (by omega)).2
          rw [this] at hu
          rw [← hu, ← Nat.add_assoc]
          exact (hc k (by omega)).2
    obtain ⟨v', w', hrun, h2, h3, _, _⟩ := run_append_own_at (P := Tryz.prog) w base 30 ty 29 i (.agg #[.int .i64 0, .int .i64 0]) 2 16 Tryz.underlying30 hi hz0 hz1 hz2 rfl (by omega) v zs.length _ hown ad ys.length c (itCells ys) (itCells_len ys) hcells
      (itCells_one ys) (by unfold maxLen; omega) (by omega) hbase
    refine ⟨v', w', hrun, ?_, h3⟩
    unfold OwnT
    rw [List.length_append, itCells_append]
    exact h2

/-- At a plain region's list. -/
theorem wpList_appRT {ops : Array Oper} {rest : List Oper} {o : Oper} {a : Act} {Q : Exit → Act → World → Prop} (w : World) (hgd : o.guard = none) (s x : Operand)
    (ho : o.op = .call { callee := .builtin .append, args := #[s, x], argTypes := #[30, 30] })
    (base : Nat) (v : Value) (zs : List It) (hs : a.eval s = v) (hown : OwnT base w v zs) (A : Option Addr) (ys : List It) (c : Nat) (hx : a.eval x = .slice A ys.length c) (hr : RowT w A ys) (hlen : zs.length ≤ 1000000) (hlen2 : ys.length ≤ 1000000) (hbase : base ≤ w.heap.size)
    (h : ∀ v' w', OwnT base w' v' (zs ++ ys) → w.grownBy w' v.ownBlock → wpList Tryz.prog ops Q rest (a.put o.dst v') w') : wpList Tryz.prog ops Q (o :: rest) a w := by
  obtain ⟨v', w', hrun, h2, h3⟩ := run_appRT w o.type base v zs hown A ys c hr hlen hlen2 hbase
  refine wpList_plain hgd fun _ hK => ?_
  unfold Oper.wp execOp
  simp only [ho, resolve, invoke, builtin, Sem.run_bind, Sem.run_pure, Result.andThen_ok, List.map_toArray, List.map_cons, List.map_nil, hs, hx, hrun]
  exact hK _ _ (h v' w' h2 h3)

end Go.Proofs.YthhmedlefahccaaGreatDoor
/-
  Plain mathematics of rings, with no program in it: remainders, links and their ends, ways round.
-/
namespace Plait

/-- Steps, each cut down by itself. -/
def accI (n : Int) (zs : List Int) : Int := zs.foldl (fun x s => (x + s.tmod n).tmod n) 0

theorem tmod_in (a n : Int) (hn : 0 < n) : -n < a.tmod n ∧ a.tmod n < n := by
  rcases Int.le_total 0 a with h | h
  · rw [Int.tmod_eq_emod_of_nonneg h]
    have := Int.emod_nonneg a (show n ≠ 0 by omega)
    have := Int.emod_lt_of_pos a hn
    omega
  · have e : a.tmod n = -((-a) % n) := by rw [show a = -(-a) by omega, Int.neg_tmod, Int.tmod_eq_emod_of_nonneg (by omega)]; simp
    have := Int.emod_nonneg (-a) (show n ≠ 0 by omega)
    have := Int.emod_lt_of_pos (-a) hn
    omega

theorem tmod_emod (a n : Int) : a.tmod n % n = a % n := by
  have h := Int.mul_tdiv_add_tmod a n
  have e : a.tmod n = a + n * (-(a.tdiv n)) := by rw [Int.mul_neg]; omega
  rw [e, Int.add_mul_emod_self_left]

theorem accI_in (n : Int) (hn : 0 < n) (zs : List Int) : -n < accI n zs ∧ accI n zs < n := by
  rcases List.eq_nil_or_concat zs with rfl | ⟨l, z, rfl⟩
  · simp [accI]; omega
  · unfold accI
    rw [List.concat_eq_append, List.foldl_append]
    exact tmod_in _ _ hn

theorem accI_take (n : Int) (zs : List Int) (k : Nat) (hk : k < zs.length) : accI n (zs.take (k + 1)) = (accI n (zs.take k) + zs[k].tmod n).tmod n := by
  unfold accI
  rw [List.take_succ_eq_append_getElem hk, List.foldl_append]
  rfl

theorem foldl_emod (n : Int) : ∀ (zs : List Int) (x y : Int), x % n = y % n → (zs.foldl (fun x s => (x + s.tmod n).tmod n) x) % n = (y + zs.sum) % n
  | [], x, y, h => by simpa using h
  | z :: r, x, y, h => by
    rw [List.foldl_cons, foldl_emod n r _ (y + z) (by rw [tmod_emod, Int.add_emod, tmod_emod, h, ← Int.add_emod]), List.sum_cons]
    congr 1
    omega

theorem accI_emod (n : Int) (zs : List Int) : accI n zs % n = zs.sum % n := by
  have := foldl_emod n zs 0 0 rfl
  simpa [accI] using this

theorem emod_neg (n x : Int) (h1 : -n < x) (h2 : x < 0) : x + n = x % n := by
  have e : x % n = (x + n) % n := by rw [Int.add_emod_right]
  rw [e]
  exact (Int.emod_eq_of_lt (by omega) (by omega)).symm

def distI (n f t d : Int) : Int := if d < 0 then (f - t) % n else (t - f) % n
def endA (n l : Int) : Int := if l < n then l else l - n
def endB (n l : Int) : Int := if l < n then (l + 1) % n else (l - n + 2) % n

def nodeI (n x : Int) : Bool := decide (0 ≤ x) && decide (x < n)

/-- The link between two nodes, as the program looks for it. -/
def linkI (n a b : Int) : Int × Bool :=
  if nodeI n a && nodeI n b then
    if (b - a) % n = 1 then (a, true) else if (b - a) % n = 2 then (n + a, true) else if (a - b) % n = 1 then (b, true) else if (a - b) % n = 2 then (n + b, true) else (0, false)
  else (0, false)

/-- A link joins them. -/
def joins (n a b k : Int) : Bool := endA n k == a && endB n k == b || endA n k == b && endB n k == a

/-- The first link that joins them. -/
def linkR (n a b : Int) : Int × Bool :=
  match (List.range (2 * n).toNat).find? (fun (k : Nat) => joins n a b k) with
  | some k => (k, true)
  | none => (0, false)

theorem linkR_hit (n a b : Int) (k : Nat) (hk : (k : Int) < 2 * n) (h : joins n a b k = true) (hno : ∀ j : Nat, j < k → joins n a b j = false) : linkR n a b = ((k : Int), true) := by
  have e : (List.range (2 * n).toNat).find? (fun (k : Nat) => joins n a b k) = some k := by
    rw [List.find?_range_eq_some]
    exact ⟨h, by rw [List.mem_range]; omega, fun j hj => by simp [hno j hj]⟩
  unfold linkR
  rw [e]
theorem linkR_none (n a b : Int) (hno : ∀ j : Nat, (j : Int) < 2 * n → joins n a b j = false) : linkR n a b = (0, false) := by
  have e : (List.range (2 * n).toNat).find? (fun (k : Nat) => joins n a b k) = none := by
    rw [List.find?_eq_none]
    intro j hj
    rw [List.mem_range] at hj
    simp [hno j (by omega)]
  unfold linkR
  rw [e]

theorem endA_in (n : Int) (k : Nat) (hk : (k : Int) < 2 * n) : 0 ≤ endA n k ∧ endA n k < n := by unfold endA; split <;> omega
theorem endB_in (n k : Int) (hn : 0 < n) : 0 ≤ endB n k ∧ endB n k < n := by
  unfold endB; split <;> exact ⟨Int.emod_nonneg _ (by omega), Int.emod_lt_of_pos _ hn⟩

theorem link_fin : ∀ n : Fin 7, ∀ a b : Fin 12, linkI (6 + (n.val : Int)) a.val b.val = linkR (6 + (n.val : Int)) a.val b.val ∨ ¬ (a.val < 6 + n.val ∧ b.val < 6 + n.val) := by decide +kernel

theorem linkI_linkR (n a b : Int) (h1 : 6 ≤ n) (h2 : n ≤ 12) : linkI n a b = linkR n a b := by
  by_cases h : (0 ≤ a ∧ a < n) ∧ (0 ≤ b ∧ b < n)
  · have hf := link_fin ⟨(n - 6).toNat, by omega⟩ ⟨a.toNat, by omega⟩ ⟨b.toNat, by omega⟩
    have e1 : 6 + (((n - 6).toNat : Nat) : Int) = n := by omega
    have e2 : ((a.toNat : Nat) : Int) = a := by omega
    have e3 : ((b.toNat : Nat) : Int) = b := by omega
    simp only [e1, e2, e3] at hf
    rcases hf with hf | hf
    · exact hf
    · exfalso; apply hf; omega
  · have hno : ∀ j : Nat, (j : Int) < 2 * n → joins n a b j = false := by
      intro j hj
      have := endA_in n j hj
      have := endB_in n j (by omega)
      unfold joins
      generalize endA n j = x at *
      generalize endB n j = y at *
      by_cases ha : 0 ≤ a ∧ a < n
      · have e1 : (x == b) = false := by simp; omega
        have e2 : (y == b) = false := by simp; omega
        simp [e1, e2]
      · have e1 : (x == a) = false := by simp; omega
        have e2 : (y == a) = false := by simp; omega
        simp [e1, e2]
    rw [linkR_none n a b hno]
    unfold linkI
    rw [if_neg]
    unfold nodeI
    simp
    omega

theorem linkI_off (n a b : Int) (h : nodeI n a = false) : linkI n a b = (0, false) := by simp [linkI, h]
theorem linkI_off2 (n a b : Int) (h : nodeI n b = false) : linkI n a b = (0, false) := by simp [linkI, h]
theorem linkI_1 (n a b : Int) (h : nodeI n a = true) (h' : nodeI n b = true) (e : (b - a) % n = 1) : linkI n a b = (a, true) := by simp [linkI, h, h', e]
theorem linkI_2 (n a b : Int) (h : nodeI n a = true) (h' : nodeI n b = true) (e : (b - a) % n = 2) : linkI n a b = (n + a, true) := by simp [linkI, h, h', e]
theorem linkI_3 (n a b : Int) (h : nodeI n a = true) (h' : nodeI n b = true) (n1 : (b - a) % n ≠ 1) (n2 : (b - a) % n ≠ 2) (e : (a - b) % n = 1) : linkI n a b = (b, true) := by simp [linkI, h, h', n1, n2, e]
theorem linkI_4 (n a b : Int) (h : nodeI n a = true) (h' : nodeI n b = true) (n1 : (b - a) % n ≠ 1) (n2 : (b - a) % n ≠ 2) (e : (a - b) % n = 2) : linkI n a b = (n + b, true) := by simp [linkI, h, h', n1, n2, e]
theorem linkI_5 (n a b : Int) (h : nodeI n a = true) (h' : nodeI n b = true) (n1 : (b - a) % n ≠ 1) (n2 : (b - a) % n ≠ 2) (n3 : (a - b) % n ≠ 1) (n4 : (a - b) % n ≠ 2) : linkI n a b = (0, false) := by simp [linkI, h, h', n1, n2, n3, n4]

/-- So many nodes as they are reached from one. -/
def walkTo (n f d : Int) (k : Nat) : List Int := (List.range k).map fun (j : Nat) => (f + ((j : Int) + 1) * d) % n
theorem walkTo_succ (n f d : Int) (k : Nat) : walkTo n f d (k + 1) = walkTo n f d k ++ [(f + ((k : Int) + 1) * d) % n] := by simp [walkTo, List.range_succ]
theorem walkTo_len (n f d : Int) (k : Nat) : (walkTo n f d k).length = k := by simp [walkTo]
theorem walkTo_in (n f d : Int) (k : Nat) (hn : 0 < n) : ∀ z ∈ walkTo n f d k, 0 ≤ z ∧ z < n := by
  intro z hz
  unfold walkTo at hz
  rw [List.mem_map] at hz
  obtain ⟨j, _, rfl⟩ := hz
  exact ⟨Int.emod_nonneg _ (by omega), Int.emod_lt_of_pos _ hn⟩

/-- The owner from which a way goes. -/
def lastI (os : List Int) (d : Int) : Int := if d < 0 then os.headD 0 else os.getLastD 0

/-- The others, as they are reached. -/
def wayI (n : Int) (os : List Int) (d : Int) : List Int := if os = [] then [] else (walkTo n (lastI os d) d (n.toNat - 1)).filter fun x => !inB os x

/-- The same, as the document's own text has it. -/
def wayR (n : Int) (os : List Int) (d : Int) : List Int := if os = [] then [] else walkTo n (lastI os d) d (n.toNat - os.length)

theorem way1_fin : ∀ n : Fin 7, ∀ a : Fin 12, ∀ up : Bool, wayI (6 + (n.val : Int)) [(a.val : Int)] (if up then 1 else -1) = wayR (6 + (n.val : Int)) [(a.val : Int)] (if up then 1 else -1) ∨ ¬ (a.val < 6 + n.val) := by decide +kernel
theorem way2_fin : ∀ n : Fin 7, ∀ a : Fin 12, ∀ up : Bool, wayI (6 + (n.val : Int)) [(a.val : Int), ((a.val : Int) + 1) % (6 + (n.val : Int))] (if up then 1 else -1) = wayR (6 + (n.val : Int)) [(a.val : Int), ((a.val : Int) + 1) % (6 + (n.val : Int))] (if up then 1 else -1) ∨ ¬ (a.val < 6 + n.val) := by decide +kernel

/-- Owners as they may be: one, or one and the next. -/
def OwnersOk (n : Int) (os : List Int) : Prop := ∃ a, 0 ≤ a ∧ a < n ∧ (os = [a] ∨ os = [a, (a + 1) % n])

theorem wayI_wayR (n : Int) (os : List Int) (d : Int) (h1 : 6 ≤ n) (h2 : n ≤ 12) (ho : OwnersOk n os) (hd : d = 1 ∨ d = -1) : wayI n os d = wayR n os d := by
  obtain ⟨a, a0, a1, ho⟩ := ho
  have e1 : 6 + (((n - 6).toNat : Nat) : Int) = n := by omega
  have e2 : ((a.toNat : Nat) : Int) = a := by omega
  have hd' : ∃ up : Bool, d = if up then 1 else -1 := by rcases hd with rfl | rfl; exact ⟨true, rfl⟩; exact ⟨false, rfl⟩
  obtain ⟨up, rfl⟩ := hd'
  rcases ho with rfl | rfl
  · have hf := way1_fin ⟨(n - 6).toNat, by omega⟩ ⟨a.toNat, by omega⟩ up
    simp only [e1, e2] at hf
    rcases hf with hf | hf
    · exact hf
    · exfalso; apply hf; omega
  · have hf := way2_fin ⟨(n - 6).toNat, by omega⟩ ⟨a.toNat, by omega⟩ up
    simp only [e1, e2] at hf
    rcases hf with hf | hf
    · exact hf
    · exfalso; apply hf; omega

end Plait
