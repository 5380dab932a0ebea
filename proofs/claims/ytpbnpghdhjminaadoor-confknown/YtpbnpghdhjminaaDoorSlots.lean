/-
  A region that draws its order, walked operation by operation: each has a fact of its own on what it yields, which new memory does not break; an operation is run from the facts of those that it waits for. So rows that the region itself makes may be made at any time.
-/
import Derived.Test.YtpbnpghdhjminaaDoorBase
namespace Go.Proofs.YtpbnpghdhjminaaDoor
open Go.RowKit
set_option linter.unusedVariables false

abbrev Fact := Value → World → Prop
def anyFact : Fact := fun _ _ => True
def dstAt (l : List Oper) (j : Nat) : Option Tmp := (l[j]?).bind (·.dst)

/-- Which slot each operation writes: D. -/
def dstOf (D : List (Option Tmp)) (j : Nat) : Option Tmp := (D[j]?).join
def yieldsOf (D : List (Option Tmp)) (a : Act) (j : Nat) : Option Bool := match dstOf D j with | some d => (match a.eval (.tmp d) with | .bool b => some b | _ => none) | none => none

/-- The frame: its size, no defers, the slots that the region only reads. -/
structure Fr (n : Nat) (olds : List (Tmp × Value)) (a : Act) : Prop where
  size : a.tmps.size = n
  defers : a.defers = []
  old : ∀ k v, (k, v) ∈ olds → a.eval (.tmp k) = v

/-- What is asked of one operation. -/
def Ob (P : Program) (D : List (Option Tmp)) (n : Nat) (olds : List (Tmp × Value)) (S : World → Prop) (Q : Exit → Act → World → Prop) (o : Oper) (fs : List Fact) (f : Fact) : Prop :=
  ∀ (a : Act) (W : World), S W → Fr n olds a → (∀ j d, (o.after.toList.any fun e => Region.binds .any e && e.on == j) = true → dstOf D j = some d → fs.getD j anyFact (a.eval (.tmp d)) W) →
    Region.wanted o (yieldsOf D a) = true ∧ ∀ K : Act → World → Prop, (∀ v W', f v W' → S W' → Below W.heap.size W W' → K (a.put o.dst v) W') → o.wp P a W K Q

def Steps (P : Program) (D : List (Option Tmp)) (n : Nat) (olds : List (Tmp × Value)) (S : World → Prop) (Q : Exit → Act → World → Prop) (R : List Fact → Prop) : List Oper → List Fact → Prop
  | [], fs => R fs
  | o :: rest, fs => ∃ f : Fact, (∀ v W W', f v W → Below W.heap.size W W' → f v W') ∧ Ob P D n olds S Q o fs f ∧ Steps P D n olds S Q R rest (fs ++ [f])

section
variable {P : Program} {D : List (Option Tmp)} {n : Nat} {olds : List (Tmp × Value)} {S : World → Prop} {Q : Exit → Act → World → Prop} {R : List Fact → Prop} {o : Oper} {rest : List Oper} {fs : List Fact}
/-- An operation that yields one value. -/
theorem step_fix {c : Value} (h : Ob P D n olds S Q o fs fun v _ => v = c) (hn : Steps P D n olds S Q R rest (fs ++ [fun v _ => v = c])) : Steps P D n olds S Q R (o :: rest) fs :=
  ⟨_, fun _ _ _ h _ => h, h, hn⟩
/-- One that makes a row of whole numbers. -/
def rowFact (zs : List Int) : Fact := fun v W => ∃ a cap, v = .slice a zs.length cap ∧ Row W a zs
theorem step_row (zs : List Int) (h : Ob P D n olds S Q o fs (rowFact zs)) (hn : Steps P D n olds S Q R rest (fs ++ [rowFact zs])) : Steps P D n olds S Q R (o :: rest) fs :=
  ⟨_, fun v W W' ⟨a, cap, e, hr⟩ hb => ⟨a, cap, e, hr.later hb⟩, h, hn⟩
/-- One that makes a block. -/
def blkFact (m : Nat) (t : TypeId) (cs : Array Value) : Fact := fun v W => ∃ b, v = .slice (some ⟨b, 0, none⟩) m m ∧ Blk W b t cs
theorem step_blk (m : Nat) (t : TypeId) (cs : Array Value) (h : Ob P D n olds S Q o fs (blkFact m t cs)) (hn : Steps P D n olds S Q R rest (fs ++ [blkFact m t cs])) : Steps P D n olds S Q R (o :: rest) fs :=
  ⟨_, fun v W W' ⟨b, e, hr⟩ hb => ⟨b, e, hr.later hb⟩, h, hn⟩
theorem wanted_at {j : Nat} {b : Bool} {d : Tmp} {a : Act} (h : o.guard = some (j, b)) (hd : dstOf D j = some d) (hv : a.eval (.tmp d) = .bool b) : Region.wanted o (yieldsOf D a) = true := by simp [Region.wanted, h, yieldsOf, hd, hv]
theorem wanted_none (h : o.guard = none) (y : Nat → Option Bool) : Region.wanted o y = true := by simp [Region.wanted, h]
end

theorem steps_all {P : Program} {D : List (Option Tmp)} {n : Nat} {olds : List (Tmp × Value)} {S : World → Prop} {Q : Exit → Act → World → Prop} {R : List Fact → Prop} : ∀ (rest : List Oper) (fs0 : List Fact), Steps P D n olds S Q R rest fs0 →
    ∃ fs : List Fact, fs.length = fs0.length + rest.length ∧ fs.take fs0.length = fs0 ∧ R fs ∧
      ∀ i o, rest[i]? = some o → (∀ v W W', fs.getD (fs0.length + i) anyFact v W → Below W.heap.size W W' → fs.getD (fs0.length + i) anyFact v W') ∧ Ob P D n olds S Q o (fs.take (fs0.length + i)) (fs.getD (fs0.length + i) anyFact)
  | [], fs0, h => ⟨fs0, by simp, by simp, h, fun i o hi => by simp at hi⟩
  | o :: rest, fs0, ⟨f, hst, hob, h⟩ => by
    obtain ⟨fs, hl, ht, hR, hall⟩ := steps_all rest (fs0 ++ [f]) h
    have hlen : (fs0 ++ [f]).length = fs0.length + 1 := by simp
    rw [hlen] at hl ht hall
    have ht0 : fs.take fs0.length = fs0 := by
      have := congrArg (List.take fs0.length) ht
      rw [List.take_take, Nat.min_eq_left (by omega)] at this
      simpa using this
    have hf : fs.getD fs0.length anyFact = f := by
      have := congrArg (fun x => x[fs0.length]?) ht
      simp only [List.getElem?_take, List.getElem?_append_right (Nat.le_refl _), Nat.sub_self] at this
      rw [if_pos (by omega)] at this
      rw [List.getD_eq_getElem?_getD, this]
      rfl
    refine ⟨fs, by simp at hl ⊢; omega, ht0, hR, fun i o' hi => ?_⟩
    cases i with
    | zero =>
      simp at hi
      subst hi
      rw [Nat.add_zero, hf, ht0]
      exact ⟨hst, hob⟩
    | succ i =>
      have := hall i o' (by simpa using hi)
      rw [show fs0.length + (i + 1) = fs0.length + 1 + i by omega]
      exact this

/-- The region's own form: no two operations write one slot, each waits for earlier ones alone, all slots are there. -/
def slotsB (l : List Oper) (D : List (Option Tmp)) (n : Nat) (olds : List (Tmp × Value)) : Bool :=
  ((List.range l.length).all fun i => (List.range l.length).all fun j => i == j || dstOf D i == none || dstOf D i != dstOf D j) &&
  ((List.range l.length).all fun i => match l[i]? with | some o => o.after.all fun e => !Region.binds .any e || decide (e.on < i) | none => true) &&
  (D.all fun x => match x with | some d => decide (d < n) && (olds.all fun p => p.1 != d) | none => true) && (l.map (·.dst) == D)

theorem eval_put_same (a : Act) (d : Tmp) (v : Value) (h : d < a.tmps.size) : (a.put (some d) v).eval (.tmp d) = v := by
  simp [Act.put, Act.eval, h]
theorem eval_put_other (a : Act) (dst : Option Tmp) (d : Tmp) (v : Value) (h : dst ≠ some d) : (a.put dst v).eval (.tmp d) = a.eval (.tmp d) := by
  cases dst with
  | none => rfl
  | some d' =>
    have hne : d' ≠ d := fun e => h (by rw [e])
    simp only [Act.put, Act.eval, Array.getD_eq_getD_getElem?, Array.getElem?_setIfInBounds, if_neg hne]
theorem size_put (a : Act) (dst : Option Tmp) (v : Value) : (a.put dst v).tmps.size = a.tmps.size := by
  cases dst <;> simp [Act.put]
theorem defers_put (a : Act) (dst : Option Tmp) (v : Value) : (a.put dst v).defers = a.defers := by
  cases dst <;> rfl

theorem count_set {l : List Bool} {i : Nat} (h : l[i]? = some false) : (l.set i true).count false + 1 = l.count false := by
  have hi : i < l.length := by
    rcases Nat.lt_or_ge i l.length with h' | h'
    · exact h'
    · rw [List.getElem?_eq_none h'] at h; cases h
  have he : l[i] = false := by
    have := List.getElem?_eq_getElem hi
    rw [h] at this
    injection this with this
    exact this.symm
  rw [List.count_set hi, he]
  have hpos : 0 < l.count false := List.count_pos_iff.2 (he ▸ List.getElem_mem hi)
  simp
  omega

theorem region_slots {P : Program} {id : Nat} {l : List Oper} {a0 : Act} {w : World} {Q : Exit → Act → World → Prop} (S : World → Prop) (D : List (Option Tmp)) (n : Nat) (olds : List (Tmp × Value)) (hm : P.follows .mixedOrders = true) (hB : slotsB l D n olds = true) (hF0 : Fr n olds a0) (hS0 : S w.drew)
    (h : Steps P D n olds S Q (fun fs => ∀ a W, S W → Fr n olds a → (∀ j d, dstOf D j = some d → fs.getD j anyFact (a.eval (.tmp d)) W) → Q .normal a W) l []) : (Code.region id l.toArray true).wp P Q a0 w := by
  obtain ⟨fs, hlen, _, hR, hall⟩ := steps_all l [] h
  simp only [List.length_nil, Nat.zero_add] at hlen hall
  unfold slotsB at hB
  simp only [Bool.and_eq_true] at hB
  obtain ⟨⟨⟨hd1, hd2⟩, hd3⟩, hd4⟩ := hB
  have hD : l.map (·.dst) = D := by simpa using hd4
  have dD : ∀ j, dstOf D j = dstAt l j := by
    intro j
    unfold dstOf dstAt
    rw [← hD, List.getElem?_map]
    cases l[j]? <;> rfl
  have hdist : ∀ i j d, dstAt l i = some d → dstAt l j = some d → i = j := by
    intro i j d hi hj
    have li : i < l.length := by
      rcases Nat.lt_or_ge i l.length with h' | h'
      · exact h'
      · unfold dstAt at hi; rw [List.getElem?_eq_none h'] at hi; cases hi
    have lj : j < l.length := by
      rcases Nat.lt_or_ge j l.length with h' | h'
      · exact h'
      · unfold dstAt at hj; rw [List.getElem?_eq_none h'] at hj; cases hj
    have h1 := List.all_eq_true.1 (List.all_eq_true.1 hd1 i (List.mem_range.2 li)) j (List.mem_range.2 lj)
    rw [dD, dD, hi, hj] at h1
    simpa using h1
  have hdep : ∀ i o, l[i]? = some o → ∀ e ∈ o.after, Region.binds .any e = true → e.on < i := by
    intro i o hi e he hb
    have li : i < l.length := by
      rcases Nat.lt_or_ge i l.length with h' | h'
      · exact h'
      · rw [List.getElem?_eq_none h'] at hi; cases hi
    have h1 := List.all_eq_true.1 hd2 i (List.mem_range.2 li)
    rw [hi] at h1
    have h2 := Array.all_eq_true_iff_forall_mem.1 h1 e he
    rw [hb] at h2
    simpa using h2
  have hfit : ∀ j d, dstAt l j = some d → d < n ∧ ∀ k v, (k, v) ∈ olds → k ≠ d := by
    intro j d hj
    rw [← dD] at hj
    unfold dstOf at hj
    cases hl : D[j]? with
    | none => rw [hl] at hj; cases hj
    | some x =>
      rw [hl] at hj
      have hx : x = some d := hj
      have h1 := List.all_eq_true.1 hd3 x (List.mem_of_getElem? hl)
      rw [hx] at h1
      simp only [Bool.and_eq_true, decide_eq_true_eq] at h1
      refine ⟨h1.1, fun k v hkv => ?_⟩
      have h2 := List.all_eq_true.1 h1.2 (k, v) hkv
      simpa using h2
  have hyield : ∀ a : Act, Fr n olds a → ∀ j, yielded l.toArray a.tmps j = yieldsOf D a j := by
    intro a hF j
    unfold yielded yieldsOf
    rw [dD]
    unfold dstAt
    rw [List.getElem?_toArray]
    cases hb : (l[j]?).bind (·.dst) with
    | none => rfl
    | some d =>
      have hlt : d < a.tmps.size := by rw [hF.size]; exact (hfit j d (by unfold dstAt; exact hb)).1
      simp only [Option.bind_some, Array.getElem?_eq_getElem hlt, Act.eval, Array.getD_eq_getD_getElem?, Option.getD_some]
      cases a.tmps[d] <;> rfl
  have main : ∀ (fuel : Nat) (listed : Array Bool) (a : Act) (W : World), S W → Fr n olds a → listed.size = l.length → (∀ j d, listed.getD j false = true → dstOf D j = some d → fs.getD j anyFact (a.eval (.tmp d)) W) → listed.toList.count false ≤ fuel →
      wpAny P .any l.toArray Q fuel listed a W := by
    intro fuel
    induction fuel with
    | zero =>
      intro listed a W hS hP hsz hok hc
      have hno : ∀ j, listed.getD j true = true := by
        intro j
        cases hj : listed[j]? with
        | none => simp [hj]
        | some b =>
          cases b with
          | true => simp [hj]
          | false =>
            have : false ∈ listed.toList := List.mem_of_getElem? (by rw [Array.getElem?_toList]; exact hj)
            have := List.count_pos_iff.2 this
            omega
      refine ⟨?_, hR a W hS hP fun j d hj => hok j d ?_ hj⟩
      · rw [List.eq_nil_iff_forall_not_mem]
        intro j hj
        have := (mem_ready.1 hj).1
        rw [hno j] at this
        cases this
      · have h1 := hno j
        have lj : j < listed.size := by
          rw [hsz]
          rcases Nat.lt_or_ge j l.length with h' | h'
          · exact h'
          · rw [dD] at hj; unfold dstAt at hj; rw [List.getElem?_eq_none h'] at hj; cases hj
        simp [lj] at h1 ⊢
        exact h1
    | succ fuel ih =>
      intro listed a W hS hP hsz hok hc
      refine ⟨fun hr => ?_, fun i hi => ?_⟩
      · have hall1 : ∀ j, j < l.length → listed.getD j false = true := by
          intro j
          induction j using Nat.strongRecOn with
          | _ j ihj =>
            intro lj
            cases hj : listed.getD j false with
            | true => rfl
            | false =>
              exfalso
              have lj' : j < listed.size := by omega
              have hmem : j ∈ Region.ready .any l.toArray listed := by
                rw [mem_ready]
                refine ⟨by simp [lj'] at hj ⊢; exact hj, l[j], by simp [lj], fun e he hb => ?_⟩
                have := hdep j l[j] (List.getElem?_eq_getElem lj) e he hb
                exact ihj e.on this (by omega)
              rw [hr] at hmem
              cases hmem
        exact hR a W hS hP fun j d hj => hok j d (hall1 j (by
          rcases Nat.lt_or_ge j l.length with h' | h'
          · exact h'
          · rw [dD] at hj; unfold dstAt at hj; rw [List.getElem?_eq_none h'] at hj; cases hj)) hj
      · obtain ⟨hun, o, ho, hdeps⟩ := mem_ready.1 hi
        have ho' : l[i]? = some o := by simpa using ho
        have li : i < l.length := by
          rcases Nat.lt_or_ge i l.length with h' | h'
          · exact h'
          · rw [List.getElem?_eq_none h'] at ho'; cases ho'
        obtain ⟨hst, hob⟩ := hall i o ho'
        obtain ⟨hw, hrun⟩ := hob a W hS hP (fun j d hj hd => by
          obtain ⟨e, he', hbe⟩ := List.any_eq_true.1 hj
          have he : e ∈ o.after := by simpa using he'
          simp only [Bool.and_eq_true, beq_iff_eq] at hbe
          have hlt := hdep i o ho' e he hbe.1
          rw [hbe.2] at hlt
          have h1 := hdeps e he hbe.1
          rw [hbe.2] at h1
          have h2 := hok j d h1 hd
          rw [List.getD_eq_getElem?_getD, List.getElem?_take, if_pos hlt, ← List.getD_eq_getElem?_getD]
          exact h2)
        have hw' : Region.wanted o (yielded l.toArray a.tmps) = true := by
          rw [show yielded l.toArray a.tmps = yieldsOf D a from funext (hyield a hP)]
          exact hw
        unfold wpOp
        simp only [ho, hw', if_true]
        refine .inl (hrun _ fun v W' hv hS' hb => ?_)
        have hcount := count_set (l := listed.toList) (i := i) (by
          rw [Array.getElem?_toList]
          have lj' : i < listed.size := by omega
          simp [lj'] at hun ⊢
          exact hun)
        refine ih (listed.setIfInBounds i true) (a.put o.dst v) W' hS' ⟨by rw [size_put]; exact hP.size, by rw [defers_put]; exact hP.defers, fun k u hk => ?_⟩ (by simpa using hsz) (fun j d hj hd => ?_) (by
          rw [Array.toList_setIfInBounds]; omega)
        · rw [eval_put_other a o.dst k v (fun e => (hfit i k (by unfold dstAt; rw [ho']; exact e)).2 k u hk rfl)]
          exact hP.old k u hk
        · have hd0 := hd
          rw [dD] at hd
          by_cases hij : i = j
          · subst hij
            have hd' : o.dst = some d := by unfold dstAt at hd; rw [ho'] at hd; exact hd
            rw [hd', eval_put_same a d v (by rw [hP.size]; exact (hfit i d hd).1)]
            exact hv
          · rw [eval_put_other a o.dst d v (fun e => hij (hdist i j d (by unfold dstAt; rw [ho']; exact e) hd))]
            have hj' : listed.getD j false = true := by
              rw [Array.getD_eq_getD_getElem?, Array.getElem?_setIfInBounds, if_neg hij] at hj
              rw [Array.getD_eq_getD_getElem?]
              exact hj
            have lj : j < l.length := by
              rcases Nat.lt_or_ge j l.length with h' | h'
              · exact h'
              · unfold dstAt at hd; rw [List.getElem?_eq_none h'] at hd; cases hd
            exact (hall j l[j] (List.getElem?_eq_getElem lj)).1 _ _ _ (hok j d hj' hd0) hb
  refine wp_region_any hm ?_
  have := main l.length (Array.replicate l.length false) a0 w.drew hS0 hF0 (by simp) (fun j d hj _ => by
    rw [Array.getD_eq_getD_getElem?, Array.getElem?_replicate] at hj
    split at hj <;> simp at hj) (by simp)
  simpa using this

/-- A slot's value as the walk looks it up. -/
theorem ev_get {n k : Nat} {a : Act} {v : Value} (hs : a.tmps.size = n) (h : a.eval (.tmp k) = v) (hk : k < n := by decide) : a.tmps[k]? = some v := by
  have hlt : k < a.tmps.size := by omega
  rw [← h]
  simp [Act.eval, hlt]

/-- A frame of so many slots, written out. -/
theorem frame_lit (t : Array Value) (n : Nat) (h : t.size = n) (x : Nat → Value) (hx : ∀ i, t.getD i undef = x i) : t = ((List.range n).map x).toArray := by
  apply Array.ext
  · simp [h]
  · intro i h1 h2
    simp only [List.getElem_toArray, List.getElem_map, List.getElem_range]
    rw [← hx i]
    simp [h1]

end Go.Proofs.YtpbnpghdhjminaaDoor
