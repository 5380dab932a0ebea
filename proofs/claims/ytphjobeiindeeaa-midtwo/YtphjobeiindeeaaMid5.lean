/-
  Rows cut; two rows that are made side by side.
-/
import Derived.Test.YtphjobeiindeeaaMid4
namespace Go.Proofs.Ytphjobeiindeeaa
open Go.RowKit Plait
set_option maxRecDepth 100000
set_option linter.unusedVariables false

theorem Row.takeR {w : World} {a : Option Addr} {zs : List Int} (h : Row w a zs) (k : Nat) : Row w a (zs.take k) := by
  obtain ⟨h1, h2, h3⟩ := h
  refine ⟨by rw [List.length_take]; omega, fun z hz => h2 z (List.mem_of_mem_take hz), ?_⟩
  rcases h3 with rfl | ⟨b, off, e, hlt, hc⟩
  · left; simp
  · exact .inr ⟨b, off, e, hlt, fun i hi => by rw [List.length_take] at hi; rw [hc i (by omega), List.getElem_take]⟩
theorem Row.dropR {w : World} {b off : Nat} {zs : List Int} (h : Row w (some ⟨b, off, none⟩) zs) (k : Nat) : Row w (some ⟨b, off + k, none⟩) (zs.drop k) := by
  obtain ⟨h1, h2, h3⟩ := h
  refine ⟨by rw [List.length_drop]; omega, fun z hz => h2 z (List.mem_of_mem_drop hz), ?_⟩
  rcases h3 with rfl | ⟨b', off', e, hlt, hc⟩
  · left; simp
  · injection e with e
    injection e with e1 e2
    subst e1 e2
    exact .inr ⟨b, off + k, rfl, hlt, fun i hi => by rw [List.length_drop] at hi; rw [Nat.add_assoc, hc (k + i) (by omega), List.getElem_drop]⟩
theorem Row.dropE {w : World} {a : Option Addr} {zs : List Int} {k : Nat} (h : zs.length ≤ k) : Row w a (zs.drop k) := by rw [List.drop_eq_nil_of_le h]; exact Row.empty _ _

/-- A row that a call made: its cells, for reading. -/
theorem OwnRet11.row {zs : List Int} {w w' : World} {a : Option Addr} {cap : Nat} (h : OwnI w.heap.size w' (.slice a zs.length cap) zs) (hl : zs.length ≤ 1000000) (hz : ∀ z ∈ zs, -1099511627776 ≤ z ∧ z ≤ 1099511627776) : Row w' a zs := h.row (by omega) fun z h => by have := hz z h; omega

/-- Two rows that are being made: base, the heap's size when they were begun. -/
structure PairO (base : Nat) (w : World) (ss ds : List Int) (v u : Value) (W : World) : Prop where
  hB : Below base w W
  bs : base ≤ w.heap.size
  ov : OwnI base W v ss
  ou : OwnI base W u ds
  apart : ∀ p q, v.ownBlock = some p → u.ownBlock = some q → p ≠ q
theorem PairO.start (w : World) : PairO w.heap.size w [] [] (.slice none 0 0) (.slice none 0 0) w := ⟨Below.refl _ _, Nat.le_refl _, OwnI.nil _ _, OwnI.nil _ _, fun p q h => by cases h⟩
theorem PairO.later {base : Nat} {w : World} {ss ds : List Int} {v u : Value} {W W' : World} (h : PairO base w ss ds v u W) (hb : Below W.heap.size W W') : PairO base w ss ds v u W' :=
  ⟨h.hB.trans (hb.mono (Nat.le_trans h.bs h.hB.size)), h.bs, h.ov.later hb, h.ou.later hb, h.apart⟩
theorem PairO.symm {base : Nat} {w : World} {ss ds : List Int} {v u : Value} {W : World} (h : PairO base w ss ds v u W) : PairO base w ds ss u v W := ⟨h.hB, h.bs, h.ou, h.ov, fun p q e1 e2 => Ne.symm (h.apart q p e2 e1)⟩
theorem PairO.left {base : Nat} {w : World} {ss ds ss' : List Int} {v u v' : Value} {W W' : World} {g : Nat} (h : PairO base w ss ds v u W) (ho : OwnI base W' v' ss') (hg : W.grownBy W' v.ownBlock) (hgb : v'.ownBlock = some g) (hgg : v.ownBlock = some g ∨ g = W.heap.size) : PairO base w ss' ds v' u W' := by
  have hlv := h.ov.lt
  have hlu := h.ou.lt
  have hs := Nat.le_trans h.bs h.hB.size
  refine ⟨below_grown h.hB hs hg (fun k e => (hlv k e).1), h.bs, ho, ?_, fun p q hp hq => ?_⟩
  · refine World.ownsRow.kept (row := v.ownBlock) h.ou hg ?_
    cases hu : u.ownBlock with
    | none => exact .inl rfl
    | some k => exact .inr fun e => h.apart k k (by first | exact e | exact e.symm) hu rfl
  · rw [hgb] at hp
    injection hp with hp
    subst hp
    rcases hgg with e | e
    · exact h.apart g q e hq
    · have := (hlu q hq).2
      omega
theorem PairO.right {base : Nat} {w : World} {ss ds ds' : List Int} {v u u' : Value} {W W' : World} {g : Nat} (h : PairO base w ss ds v u W) (ho : OwnI base W' u' ds') (hg : W.grownBy W' u.ownBlock) (hgb : u'.ownBlock = some g) (hgg : u.ownBlock = some g ∨ g = W.heap.size) : PairO base w ss ds' v u' W' := (h.symm.left ho hg hgb hgg).symm
theorem PairO.old {base : Nat} {w : World} {ss ds : List Int} {v u : Value} {W : World} (h : PairO base w ss ds v u W) (hb : base = w.heap.size) {a : Option Addr} {zs : List Int} (hr : Row w a zs) : Row W a zs := hr.later (hb ▸ h.hB)

theorem nLe_take {l : List Int} {k : Nat} (h : k < l.length) (m : Int) : nLe (l.take (k + 1)) m = nLe (l.take k) m + if l[k] ≤ m then 1 else 0 := by rw [List.take_succ_eq_append_getElem h, (cntsL _ _ _).1]
theorem nGe_take {l : List Int} {k : Nat} (h : k < l.length) (m : Int) : nGe (l.take (k + 1)) m = nGe (l.take k) m + if m ≤ l[k] then 1 else 0 := by rw [List.take_succ_eq_append_getElem h, (cntsG _ _ _).1]
theorem nLe_len (l : List Int) (m : Int) : nLe l m ≤ l.length := List.countP_le_length
theorem nGe_len (l : List Int) (m : Int) : nGe l m ≤ l.length := List.countP_le_length

theorem heap_first (w : World) (o o2 : Obj) : ((w.drew.alloc o).alloc o2).heap[w.heap.size]? = some o := by
  have h1 : (w.drew.alloc o).heap[w.heap.size]? = some o := heap_alloc_new w.drew o
  rw [Below.heap_alloc (w.drew.alloc o) o2 w.heap.size (by simp)]
  exact h1
theorem heap_second (w : World) (o o2 : Obj) : ((w.drew.alloc o).alloc o2).heap[w.heap.size + 1]? = some o2 := by
  have h := heap_alloc_new (w.drew.alloc o) o2
  have e : (w.drew.alloc o).heap.size = w.heap.size + 1 := by simp
  rw [e] at h
  exact h
theorem below_two (w : World) (o o2 : Obj) : Below w.heap.size w ((w.drew.alloc o).alloc o2) := ((Below.refl _ _).drew.alloc (Nat.le_refl _) _).alloc (by simp) _
theorem below_one (w : World) (o : Obj) : Below w.heap.size w (w.drew.alloc o) := (Below.refl _ _).drew.alloc (Nat.le_refl _) _

theorem mid_in (l : List Int) (B : Int) (h : 4 ≤ l.length) (hz : ∀ v ∈ l, -B ≤ v ∧ v ≤ B) : -B ≤ midI l ∧ midI l ≤ B := by
  have h1 := mid_counts l h
  obtain ⟨u, hu, q⟩ := nLe_mem (show 1 ≤ nLe l (midI l) by omega)
  obtain ⟨v, hv, r⟩ := nGe_mem (show 1 ≤ nGe l (midI l) by omega)
  have := hz u hu
  have := hz v hv
  omega
theorem ends_next {l : List Int} {k : Nat} {p q : Int} (h : k < l.length) (hp : ∀ v ∈ l.take k, p ≤ v ∧ v ≤ q) : ∀ v ∈ l.take (k + 1), min p l[k] ≤ v ∧ v ≤ max q l[k] := by
  rw [List.take_succ_eq_append_getElem h]
  intro v hv
  rcases List.mem_append.1 hv with hv | hv
  · have := hp v hv; omega
  · simp at hv; subst hv; omega

end Go.Proofs.Ytphjobeiindeeaa
