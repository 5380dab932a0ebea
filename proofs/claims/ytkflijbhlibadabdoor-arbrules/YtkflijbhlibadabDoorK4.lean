/-
  Contracts of plaitingref5, fourth part: whether a frame may be.
-/
import Derived.Test.YtkflijbhlibadabDoorK3
namespace Go.Proofs.YtkflijbhlibadabDoor
open Go.RowKit Plait
set_option maxRecDepth 100000
set_option linter.unusedVariables false

/-- The loop over the items. -/
def CheckAt (c : Cf) (ca : Option Addr) (cc : Nat) (f : Fr) (a : Option Addr) (cap : Nat) (w : World) (i : Value) (w' : World) : Prop :=
  ∃ k : Nat, k ≤ f.E.length ∧ i = .int .i64 k ∧ (f.E.take k).all (itemB · false) = true ∧ Below w.heap.size w w' ∧ Blk w' (w.heap.size + 1) 29 (frBox f a cap)

theorem all_step (E : List It) (k : Nat) (h : k < E.length) (ha : (E.take k).all (itemB · false) = true) (e : itemB E[k] false = true) : (E.take (k + 1)).all (itemB · false) = true := by
  rw [List.take_succ_eq_append_getElem h, List.all_append, ha]
  simp [e]
theorem all_no (E : List It) (k : Nat) (h : k < E.length) (e : itemB E[k] false = false) : E.all (itemB · false) = false := by
  rw [Bool.eq_false_iff]
  intro hc
  have := List.all_eq_true.1 hc _ (List.getElem_mem h)
  rw [e] at this
  cases this
theorem all_end (E : List It) (k : Nat) (h : ¬ k < E.length) (ha : (E.take k).all (itemB · false) = true) : E.all (itemB · false) = true := by
  rwa [List.take_of_length_le (by omega)] at ha

set_option maxHeartbeats 12800000 in
theorem rCheck5_any (c : Cf) (ca : Option Addr) (cc : Nat) (f : Fr) (a : Option Addr) (cap : Nat) (w : World) (hc : c.Ok) (hE : RowT w a f.E) :
    Calls Tryd.prog 52 #[.agg #[.int .i64 c.N, .int .i64 c.Pi, .int .i64 c.E, .int .i64 c.G, .int .i64 c.F, .slice ca c.P.length cc], .agg #[.int .i64 f.K, .int .i64 f.R, .int .i64 f.S, .int .i64 f.P.K, .int .i64 f.P.V, .slice a f.E.length cap]] w fun e w' => e = .returned (.int .i64 (checkF c f)) ∧ Below w.heap.size w w' := by
  have hB : Below w.heap.size w ((w.alloc (.cells #[.int .i64 c.N, .int .i64 c.Pi, .int .i64 c.E, .int .i64 c.G, .int .i64 c.F, .slice ca c.P.length cc] 24)).alloc (.cells #[.int .i64 f.K, .int .i64 f.R, .int .i64 f.S, .int .i64 f.P.K, .int .i64 f.P.V, .slice a f.E.length cap] 29)) := (alloc_below w _).alloc (by simp) _
  have hC : Blk ((w.alloc (.cells #[.int .i64 c.N, .int .i64 c.Pi, .int .i64 c.E, .int .i64 c.G, .int .i64 c.F, .slice ca c.P.length cc] 24)).alloc (.cells #[.int .i64 f.K, .int .i64 f.R, .int .i64 f.S, .int .i64 f.P.K, .int .i64 f.P.V, .slice a f.E.length cap] 29)) w.heap.size 24 (confBox c ca cc) := (Blk.new w _ _).alloc _
  have hK : Blk ((w.alloc (.cells #[.int .i64 c.N, .int .i64 c.Pi, .int .i64 c.E, .int .i64 c.G, .int .i64 c.F, .slice ca c.P.length cc] 24)).alloc (.cells #[.int .i64 f.K, .int .i64 f.R, .int .i64 f.S, .int .i64 f.P.K, .int .i64 f.P.V, .slice a f.E.length cap] 29)) (w.heap.size + 1) 29 (frBox f a cap) := Blk.newAt _ _ (by simp)
  have hE0' := hE
  replace hE := hE.later hB
  have hE0 := Lib.hid (fun (W : World) (hb : Below w.heap.size w W) => hE0'.later hb)
  have hlen := hE.1
  by_cases a1 : f.S < 0
  · have HF := Lib.hid (checkF_a c f (by simp [badA, a1]))
    have d0 : decide (f.S < 0) = true := by simpa using a1
    clear a1
    go_enter Tryd.func52, Tryd.ntmps52
    go_wp2_with fail
    generalize ((w.alloc (.cells #[.int .i64 c.N, .int .i64 c.Pi, .int .i64 c.E, .int .i64 c.G, .int .i64 c.F, .slice ca c.P.length cc] 24)).alloc (.cells #[.int .i64 f.K, .int .i64 f.R, .int .i64 f.S, .int .i64 f.P.K, .int .i64 f.P.V, .slice a f.E.length cap] 29)) = wn at *
    obtain ⟨I, F, i0, h0, hR, hcl⟩ := class_any wn (stable_and (stable_below w) (stable_and (stable_blk w.heap.size 24 (confBox c ca cc)) (stable_and (stable_blk (w.heap.size + 1) 29 (frBox f a cap)) (stable_rowT a f.E)))) ⟨hB, hC, hK, hE⟩
    have K_hB := Lib.hid (fun i => (hR i).1)
    have qhC0 : ∀ i, (F i).cell? ⟨w.heap.size, 0, none⟩ = some (.int .i64 c.N) := fun i => by rw [(hR i).2.1.at]; rfl
    have qhC1 : ∀ i, (F i).cell? ⟨w.heap.size, 1, none⟩ = some (.int .i64 c.Pi) := fun i => by rw [(hR i).2.1.at]; rfl
    have qhC2 : ∀ i, (F i).cell? ⟨w.heap.size, 2, none⟩ = some (.int .i64 c.E) := fun i => by rw [(hR i).2.1.at]; rfl
    have qhC3 : ∀ i, (F i).cell? ⟨w.heap.size, 3, none⟩ = some (.int .i64 c.G) := fun i => by rw [(hR i).2.1.at]; rfl
    have qhC4 : ∀ i, (F i).cell? ⟨w.heap.size, 4, none⟩ = some (.int .i64 c.F) := fun i => by rw [(hR i).2.1.at]; rfl
    have qhC5 : ∀ i, (F i).cell? ⟨w.heap.size, 5, none⟩ = some (.slice ca c.P.length cc) := fun i => by rw [(hR i).2.1.at]; rfl
    have K_hC := Lib.hid (fun i => (hR i).2.1)
    have qhK0 : ∀ i, (F i).cell? ⟨w.heap.size + 1, 0, none⟩ = some (.int .i64 f.K) := fun i => by rw [(hR i).2.2.1.at]; rfl
    have qhK1 : ∀ i, (F i).cell? ⟨w.heap.size + 1, 1, none⟩ = some (.int .i64 f.R) := fun i => by rw [(hR i).2.2.1.at]; rfl
    have qhK2 : ∀ i, (F i).cell? ⟨w.heap.size + 1, 2, none⟩ = some (.int .i64 f.S) := fun i => by rw [(hR i).2.2.1.at]; rfl
    have qhK3 : ∀ i, (F i).cell? ⟨w.heap.size + 1, 3, none⟩ = some (.int .i64 f.P.K) := fun i => by rw [(hR i).2.2.1.at]; rfl
    have qhK4 : ∀ i, (F i).cell? ⟨w.heap.size + 1, 4, none⟩ = some (.int .i64 f.P.V) := fun i => by rw [(hR i).2.2.1.at]; rfl
    have qhK5 : ∀ i, (F i).cell? ⟨w.heap.size + 1, 5, none⟩ = some (.slice a f.E.length cap) := fun i => by rw [(hR i).2.2.1.at]; rfl
    have K_hK := Lib.hid (fun i => (hR i).2.2.1)
    have K_hE := Lib.hid (fun i => (hR i).2.2.2)
    have HR := Lib.hid hR
    have HC := Lib.hid hcl
    have H0 := Lib.hid h0
    clear hR hcl h0
    haveI : Nonempty I := ⟨i0⟩
    refine wp_region_class F i0 H0.out (by kernel_rfl) (by kernel_rfl) ?_
    repeat (go_big_quiet_step ((first | (go_at_call 17; exact class_call HC.out (rslots_any c ca cc _ hc)))))
    refine wpQuiet_nil ?_
    intro _ hw'
    obtain ⟨iq, hw''⟩ := hw'
    subst hw''
    clear hB hC hK hE K_hB qhC0 qhC1 qhC2 qhC3 qhC4 qhC5 K_hC qhK0 qhK1 qhK2 qhK3 qhK4 qhK5 K_hK K_hE HC H0
    obtain ⟨hB, hC, hK, hE⟩ := HR.out iq
    clear HR
    generalize F iq = wn at *
    have hQf := hK.at
    unfold frBox at hQf
    have hQc := hC.at
    unfold confBox at hQc
    go_wp2
    go_ret
    exact ⟨ret_int HF.out.symm, hB⟩
  by_cases a2 : slotsI c ≤ f.S
  · have HF := Lib.hid (checkF_a c f (by simp [badA, a2]))
    have d0 : decide (f.S < 0) = false := by simpa using a1
    have d1 : decide (slotsI c ≤ f.S) = true := by simpa using a2
    clear a1 a2
    go_enter Tryd.func52, Tryd.ntmps52
    go_wp2_with fail
    generalize ((w.alloc (.cells #[.int .i64 c.N, .int .i64 c.Pi, .int .i64 c.E, .int .i64 c.G, .int .i64 c.F, .slice ca c.P.length cc] 24)).alloc (.cells #[.int .i64 f.K, .int .i64 f.R, .int .i64 f.S, .int .i64 f.P.K, .int .i64 f.P.V, .slice a f.E.length cap] 29)) = wn at *
    obtain ⟨I, F, i0, h0, hR, hcl⟩ := class_any wn (stable_and (stable_below w) (stable_and (stable_blk w.heap.size 24 (confBox c ca cc)) (stable_and (stable_blk (w.heap.size + 1) 29 (frBox f a cap)) (stable_rowT a f.E)))) ⟨hB, hC, hK, hE⟩
    have K_hB := Lib.hid (fun i => (hR i).1)
    have qhC0 : ∀ i, (F i).cell? ⟨w.heap.size, 0, none⟩ = some (.int .i64 c.N) := fun i => by rw [(hR i).2.1.at]; rfl
    have qhC1 : ∀ i, (F i).cell? ⟨w.heap.size, 1, none⟩ = some (.int .i64 c.Pi) := fun i => by rw [(hR i).2.1.at]; rfl
    have qhC2 : ∀ i, (F i).cell? ⟨w.heap.size, 2, none⟩ = some (.int .i64 c.E) := fun i => by rw [(hR i).2.1.at]; rfl
    have qhC3 : ∀ i, (F i).cell? ⟨w.heap.size, 3, none⟩ = some (.int .i64 c.G) := fun i => by rw [(hR i).2.1.at]; rfl
    have qhC4 : ∀ i, (F i).cell? ⟨w.heap.size, 4, none⟩ = some (.int .i64 c.F) := fun i => by rw [(hR i).2.1.at]; rfl
    have qhC5 : ∀ i, (F i).cell? ⟨w.heap.size, 5, none⟩ = some (.slice ca c.P.length cc) := fun i => by rw [(hR i).2.1.at]; rfl
    have K_hC := Lib.hid (fun i => (hR i).2.1)
    have qhK0 : ∀ i, (F i).cell? ⟨w.heap.size + 1, 0, none⟩ = some (.int .i64 f.K) := fun i => by rw [(hR i).2.2.1.at]; rfl
    have qhK1 : ∀ i, (F i).cell? ⟨w.heap.size + 1, 1, none⟩ = some (.int .i64 f.R) := fun i => by rw [(hR i).2.2.1.at]; rfl
    have qhK2 : ∀ i, (F i).cell? ⟨w.heap.size + 1, 2, none⟩ = some (.int .i64 f.S) := fun i => by rw [(hR i).2.2.1.at]; rfl
    have qhK3 : ∀ i, (F i).cell? ⟨w.heap.size + 1, 3, none⟩ = some (.int .i64 f.P.K) := fun i => by rw [(hR i).2.2.1.at]; rfl
    have qhK4 : ∀ i, (F i).cell? ⟨w.heap.size + 1, 4, none⟩ = some (.int .i64 f.P.V) := fun i => by rw [(hR i).2.2.1.at]; rfl
    have qhK5 : ∀ i, (F i).cell? ⟨w.heap.size + 1, 5, none⟩ = some (.slice a f.E.length cap) := fun i => by rw [(hR i).2.2.1.at]; rfl
    have K_hK := Lib.hid (fun i => (hR i).2.2.1)
    have K_hE := Lib.hid (fun i => (hR i).2.2.2)
    have HR := Lib.hid hR
    have HC := Lib.hid hcl
    have H0 := Lib.hid h0
    clear hR hcl h0
    haveI : Nonempty I := ⟨i0⟩
    refine wp_region_class F i0 H0.out (by kernel_rfl) (by kernel_rfl) ?_
    repeat (go_big_quiet_step ((first | (go_at_call 17; exact class_call HC.out (rslots_any c ca cc _ hc)))))
    refine wpQuiet_nil ?_
    intro _ hw'
    obtain ⟨iq, hw''⟩ := hw'
    subst hw''
    clear hB hC hK hE K_hB qhC0 qhC1 qhC2 qhC3 qhC4 qhC5 K_hC qhK0 qhK1 qhK2 qhK3 qhK4 qhK5 K_hK K_hE HC H0
    obtain ⟨hB, hC, hK, hE⟩ := HR.out iq
    clear HR
    generalize F iq = wn at *
    have hQf := hK.at
    unfold frBox at hQf
    have hQc := hC.at
    unfold confBox at hQc
    go_wp2
    go_ret
    exact ⟨ret_int HF.out.symm, hB⟩
  by_cases a3 : f.R < 0
  · have HF := Lib.hid (checkF_a c f (by simp [badA, a3]))
    have d0 : decide (f.S < 0) = false := by simpa using a1
    have d1 : decide (slotsI c ≤ f.S) = false := by simpa using a2
    have d2 : decide (f.R < 0) = true := by simpa using a3
    clear a1 a2 a3
    go_enter Tryd.func52, Tryd.ntmps52
    go_wp2_with fail
    generalize ((w.alloc (.cells #[.int .i64 c.N, .int .i64 c.Pi, .int .i64 c.E, .int .i64 c.G, .int .i64 c.F, .slice ca c.P.length cc] 24)).alloc (.cells #[.int .i64 f.K, .int .i64 f.R, .int .i64 f.S, .int .i64 f.P.K, .int .i64 f.P.V, .slice a f.E.length cap] 29)) = wn at *
    obtain ⟨I, F, i0, h0, hR, hcl⟩ := class_any wn (stable_and (stable_below w) (stable_and (stable_blk w.heap.size 24 (confBox c ca cc)) (stable_and (stable_blk (w.heap.size + 1) 29 (frBox f a cap)) (stable_rowT a f.E)))) ⟨hB, hC, hK, hE⟩
    have K_hB := Lib.hid (fun i => (hR i).1)
    have qhC0 : ∀ i, (F i).cell? ⟨w.heap.size, 0, none⟩ = some (.int .i64 c.N) := fun i => by rw [(hR i).2.1.at]; rfl
    have qhC1 : ∀ i, (F i).cell? ⟨w.heap.size, 1, none⟩ = some (.int .i64 c.Pi) := fun i => by rw [(hR i).2.1.at]; rfl
    have qhC2 : ∀ i, (F i).cell? ⟨w.heap.size, 2, none⟩ = some (.int .i64 c.E) := fun i => by rw [(hR i).2.1.at]; rfl
    have qhC3 : ∀ i, (F i).cell? ⟨w.heap.size, 3, none⟩ = some (.int .i64 c.G) := fun i => by rw [(hR i).2.1.at]; rfl
    have qhC4 : ∀ i, (F i).cell? ⟨w.heap.size, 4, none⟩ = some (.int .i64 c.F) := fun i => by rw [(hR i).2.1.at]; rfl
    have qhC5 : ∀ i, (F i).cell? ⟨w.heap.size, 5, none⟩ = some (.slice ca c.P.length cc) := fun i => by rw [(hR i).2.1.at]; rfl
    have K_hC := Lib.hid (fun i => (hR i).2.1)
    have qhK0 : ∀ i, (F i).cell? ⟨w.heap.size + 1, 0, none⟩ = some (.int .i64 f.K) := fun i => by rw [(hR i).2.2.1.at]; rfl
    have qhK1 : ∀ i, (F i).cell? ⟨w.heap.size + 1, 1, none⟩ = some (.int .i64 f.R) := fun i => by rw [(hR i).2.2.1.at]; rfl
    have qhK2 : ∀ i, (F i).cell? ⟨w.heap.size + 1, 2, none⟩ = some (.int .i64 f.S) := fun i => by rw [(hR i).2.2.1.at]; rfl
    have qhK3 : ∀ i, (F i).cell? ⟨w.heap.size + 1, 3, none⟩ = some (.int .i64 f.P.K) := fun i => by rw [(hR i).2.2.1.at]; rfl
    have qhK4 : ∀ i, (F i).cell? ⟨w.heap.size + 1, 4, none⟩ = some (.int .i64 f.P.V) := fun i => by rw [(hR i).2.2.1.at]; rfl
    have qhK5 : ∀ i, (F i).cell? ⟨w.heap.size + 1, 5, none⟩ = some (.slice a f.E.length cap) := fun i => by rw [(hR i).2.2.1.at]; rfl
    have K_hK := Lib.hid (fun i => (hR i).2.2.1)
    have K_hE := Lib.hid (fun i => (hR i).2.2.2)
    have HR := Lib.hid hR
    have HC := Lib.hid hcl
    have H0 := Lib.hid h0
    clear hR hcl h0
    haveI : Nonempty I := ⟨i0⟩
    refine wp_region_class F i0 H0.out (by kernel_rfl) (by kernel_rfl) ?_
    repeat (go_big_quiet_step ((first | (go_at_call 17; exact class_call HC.out (rslots_any c ca cc _ hc)))))
    refine wpQuiet_nil ?_
    intro _ hw'
    obtain ⟨iq, hw''⟩ := hw'
    subst hw''
    clear hB hC hK hE K_hB qhC0 qhC1 qhC2 qhC3 qhC4 qhC5 K_hC qhK0 qhK1 qhK2 qhK3 qhK4 qhK5 K_hK K_hE HC H0
    obtain ⟨hB, hC, hK, hE⟩ := HR.out iq
    clear HR
    generalize F iq = wn at *
    have hQf := hK.at
    unfold frBox at hQf
    have hQc := hC.at
    unfold confBox at hQc
    go_wp2
    go_ret
    exact ⟨ret_int HF.out.symm, hB⟩
  by_cases a4 : 65536 ≤ f.R
  · have HF := Lib.hid (checkF_a c f (by simp [badA, a4]))
    have d0 : decide (f.S < 0) = false := by simpa using a1
    have d1 : decide (slotsI c ≤ f.S) = false := by simpa using a2
    have d2 : decide (f.R < 0) = false := by simpa using a3
    have d3 : decide (65536 ≤ f.R) = true := by simpa using a4
    clear a1 a2 a3 a4
    go_enter Tryd.func52, Tryd.ntmps52
    go_wp2_with fail
    generalize ((w.alloc (.cells #[.int .i64 c.N, .int .i64 c.Pi, .int .i64 c.E, .int .i64 c.G, .int .i64 c.F, .slice ca c.P.length cc] 24)).alloc (.cells #[.int .i64 f.K, .int .i64 f.R, .int .i64 f.S, .int .i64 f.P.K, .int .i64 f.P.V, .slice a f.E.length cap] 29)) = wn at *
    obtain ⟨I, F, i0, h0, hR, hcl⟩ := class_any wn (stable_and (stable_below w) (stable_and (stable_blk w.heap.size 24 (confBox c ca cc)) (stable_and (stable_blk (w.heap.size + 1) 29 (frBox f a cap)) (stable_rowT a f.E)))) ⟨hB, hC, hK, hE⟩
    have K_hB := Lib.hid (fun i => (hR i).1)
    have qhC0 : ∀ i, (F i).cell? ⟨w.heap.size, 0, none⟩ = some (.int .i64 c.N) := fun i => by rw [(hR i).2.1.at]; rfl
    have qhC1 : ∀ i, (F i).cell? ⟨w.heap.size, 1, none⟩ = some (.int .i64 c.Pi) := fun i => by rw [(hR i).2.1.at]; rfl
    have qhC2 : ∀ i, (F i).cell? ⟨w.heap.size, 2, none⟩ = some (.int .i64 c.E) := fun i => by rw [(hR i).2.1.at]; rfl
    have qhC3 : ∀ i, (F i).cell? ⟨w.heap.size, 3, none⟩ = some (.int .i64 c.G) := fun i => by rw [(hR i).2.1.at]; rfl
    have qhC4 : ∀ i, (F i).cell? ⟨w.heap.size, 4, none⟩ = some (.int .i64 c.F) := fun i => by rw [(hR i).2.1.at]; rfl
    have qhC5 : ∀ i, (F i).cell? ⟨w.heap.size, 5, none⟩ = some (.slice ca c.P.length cc) := fun i => by rw [(hR i).2.1.at]; rfl
    have K_hC := Lib.hid (fun i => (hR i).2.1)
    have qhK0 : ∀ i, (F i).cell? ⟨w.heap.size + 1, 0, none⟩ = some (.int .i64 f.K) := fun i => by rw [(hR i).2.2.1.at]; rfl
    have qhK1 : ∀ i, (F i).cell? ⟨w.heap.size + 1, 1, none⟩ = some (.int .i64 f.R) := fun i => by rw [(hR i).2.2.1.at]; rfl
    have qhK2 : ∀ i, (F i).cell? ⟨w.heap.size + 1, 2, none⟩ = some (.int .i64 f.S) := fun i => by rw [(hR i).2.2.1.at]; rfl
    have qhK3 : ∀ i, (F i).cell? ⟨w.heap.size + 1, 3, none⟩ = some (.int .i64 f.P.K) := fun i => by rw [(hR i).2.2.1.at]; rfl
    have qhK4 : ∀ i, (F i).cell? ⟨w.heap.size + 1, 4, none⟩ = some (.int .i64 f.P.V) := fun i => by rw [(hR i).2.2.1.at]; rfl
    have qhK5 : ∀ i, (F i).cell? ⟨w.heap.size + 1, 5, none⟩ = some (.slice a f.E.length cap) := fun i => by rw [(hR i).2.2.1.at]; rfl
    have K_hK := Lib.hid (fun i => (hR i).2.2.1)
    have K_hE := Lib.hid (fun i => (hR i).2.2.2)
    have HR := Lib.hid hR
    have HC := Lib.hid hcl
    have H0 := Lib.hid h0
    clear hR hcl h0
    haveI : Nonempty I := ⟨i0⟩
    refine wp_region_class F i0 H0.out (by kernel_rfl) (by kernel_rfl) ?_
    repeat (go_big_quiet_step ((first | (go_at_call 17; exact class_call HC.out (rslots_any c ca cc _ hc)))))
    refine wpQuiet_nil ?_
    intro _ hw'
    obtain ⟨iq, hw''⟩ := hw'
    subst hw''
    clear hB hC hK hE K_hB qhC0 qhC1 qhC2 qhC3 qhC4 qhC5 K_hC qhK0 qhK1 qhK2 qhK3 qhK4 qhK5 K_hK K_hE HC H0
    obtain ⟨hB, hC, hK, hE⟩ := HR.out iq
    clear HR
    generalize F iq = wn at *
    have hQf := hK.at
    unfold frBox at hQf
    have hQc := hC.at
    unfold confBox at hQc
    go_wp2
    go_ret
    exact ⟨ret_int HF.out.symm, hB⟩
  have HA := Lib.hid (show badA c f = false by simp [badA, a1, a2, a3, a4])
  have d0 : decide (f.S < 0) = false := by simpa using a1
  have d1 : decide (slotsI c ≤ f.S) = false := by simpa using a2
  have d2 : decide (f.R < 0) = false := by simpa using a3
  have d3 : decide (65536 ≤ f.R) = false := by simpa using a4
  by_cases k1 : f.K < 1
  · have HF := Lib.hid (checkF_k c f HA.out (by simp [badK, k1]))
    have e1 : decide (f.K < 1) = true := by simpa using k1
    clear k1 a1 a2 a3 a4
    go_enter Tryd.func52, Tryd.ntmps52
    go_wp2_with fail
    generalize ((w.alloc (.cells #[.int .i64 c.N, .int .i64 c.Pi, .int .i64 c.E, .int .i64 c.G, .int .i64 c.F, .slice ca c.P.length cc] 24)).alloc (.cells #[.int .i64 f.K, .int .i64 f.R, .int .i64 f.S, .int .i64 f.P.K, .int .i64 f.P.V, .slice a f.E.length cap] 29)) = wn at *
    obtain ⟨I, F, i0, h0, hR, hcl⟩ := class_any wn (stable_and (stable_below w) (stable_and (stable_blk w.heap.size 24 (confBox c ca cc)) (stable_and (stable_blk (w.heap.size + 1) 29 (frBox f a cap)) (stable_rowT a f.E)))) ⟨hB, hC, hK, hE⟩
    have K_hB := Lib.hid (fun i => (hR i).1)
    have qhC0 : ∀ i, (F i).cell? ⟨w.heap.size, 0, none⟩ = some (.int .i64 c.N) := fun i => by rw [(hR i).2.1.at]; rfl
    have qhC1 : ∀ i, (F i).cell? ⟨w.heap.size, 1, none⟩ = some (.int .i64 c.Pi) := fun i => by rw [(hR i).2.1.at]; rfl
    have qhC2 : ∀ i, (F i).cell? ⟨w.heap.size, 2, none⟩ = some (.int .i64 c.E) := fun i => by rw [(hR i).2.1.at]; rfl
    have qhC3 : ∀ i, (F i).cell? ⟨w.heap.size, 3, none⟩ = some (.int .i64 c.G) := fun i => by rw [(hR i).2.1.at]; rfl
    have qhC4 : ∀ i, (F i).cell? ⟨w.heap.size, 4, none⟩ = some (.int .i64 c.F) := fun i => by rw [(hR i).2.1.at]; rfl
    have qhC5 : ∀ i, (F i).cell? ⟨w.heap.size, 5, none⟩ = some (.slice ca c.P.length cc) := fun i => by rw [(hR i).2.1.at]; rfl
    have K_hC := Lib.hid (fun i => (hR i).2.1)
    have qhK0 : ∀ i, (F i).cell? ⟨w.heap.size + 1, 0, none⟩ = some (.int .i64 f.K) := fun i => by rw [(hR i).2.2.1.at]; rfl
    have qhK1 : ∀ i, (F i).cell? ⟨w.heap.size + 1, 1, none⟩ = some (.int .i64 f.R) := fun i => by rw [(hR i).2.2.1.at]; rfl
    have qhK2 : ∀ i, (F i).cell? ⟨w.heap.size + 1, 2, none⟩ = some (.int .i64 f.S) := fun i => by rw [(hR i).2.2.1.at]; rfl
    have qhK3 : ∀ i, (F i).cell? ⟨w.heap.size + 1, 3, none⟩ = some (.int .i64 f.P.K) := fun i => by rw [(hR i).2.2.1.at]; rfl
    have qhK4 : ∀ i, (F i).cell? ⟨w.heap.size + 1, 4, none⟩ = some (.int .i64 f.P.V) := fun i => by rw [(hR i).2.2.1.at]; rfl
    have qhK5 : ∀ i, (F i).cell? ⟨w.heap.size + 1, 5, none⟩ = some (.slice a f.E.length cap) := fun i => by rw [(hR i).2.2.1.at]; rfl
    have K_hK := Lib.hid (fun i => (hR i).2.2.1)
    have K_hE := Lib.hid (fun i => (hR i).2.2.2)
    have HR := Lib.hid hR
    have HC := Lib.hid hcl
    have H0 := Lib.hid h0
    clear hR hcl h0
    haveI : Nonempty I := ⟨i0⟩
    refine wp_region_class F i0 H0.out (by kernel_rfl) (by kernel_rfl) ?_
    repeat (go_big_quiet_step ((first | (go_at_call 17; exact class_call HC.out (rslots_any c ca cc _ hc)))))
    refine wpQuiet_nil ?_
    intro _ hw'
    obtain ⟨iq, hw''⟩ := hw'
    subst hw''
    clear hB hC hK hE K_hB qhC0 qhC1 qhC2 qhC3 qhC4 qhC5 K_hC qhK0 qhK1 qhK2 qhK3 qhK4 qhK5 K_hK K_hE HC H0
    obtain ⟨hB, hC, hK, hE⟩ := HR.out iq
    clear HR
    generalize F iq = wn at *
    have hQf := hK.at
    unfold frBox at hQf
    have hQc := hC.at
    unfold confBox at hQc
    go_wp2
    go_ret
    exact ⟨ret_int HF.out.symm, hB⟩
  have e1 : decide (f.K < 1) = false := by simpa using k1
  by_cases k2 : 3 < f.K
  · have HF := Lib.hid (checkF_k c f HA.out (by simp [badK, k2]))
    have e2 : decide (3 < f.K) = true := by simpa using k2
    clear k1 k2 a1 a2 a3 a4
    go_enter Tryd.func52, Tryd.ntmps52
    go_wp2_with fail
    generalize ((w.alloc (.cells #[.int .i64 c.N, .int .i64 c.Pi, .int .i64 c.E, .int .i64 c.G, .int .i64 c.F, .slice ca c.P.length cc] 24)).alloc (.cells #[.int .i64 f.K, .int .i64 f.R, .int .i64 f.S, .int .i64 f.P.K, .int .i64 f.P.V, .slice a f.E.length cap] 29)) = wn at *
    obtain ⟨I, F, i0, h0, hR, hcl⟩ := class_any wn (stable_and (stable_below w) (stable_and (stable_blk w.heap.size 24 (confBox c ca cc)) (stable_and (stable_blk (w.heap.size + 1) 29 (frBox f a cap)) (stable_rowT a f.E)))) ⟨hB, hC, hK, hE⟩
    have K_hB := Lib.hid (fun i => (hR i).1)
    have qhC0 : ∀ i, (F i).cell? ⟨w.heap.size, 0, none⟩ = some (.int .i64 c.N) := fun i => by rw [(hR i).2.1.at]; rfl
    have qhC1 : ∀ i, (F i).cell? ⟨w.heap.size, 1, none⟩ = some (.int .i64 c.Pi) := fun i => by rw [(hR i).2.1.at]; rfl
    have qhC2 : ∀ i, (F i).cell? ⟨w.heap.size, 2, none⟩ = some (.int .i64 c.E) := fun i => by rw [(hR i).2.1.at]; rfl
    have qhC3 : ∀ i, (F i).cell? ⟨w.heap.size, 3, none⟩ = some (.int .i64 c.G) := fun i => by rw [(hR i).2.1.at]; rfl
    have qhC4 : ∀ i, (F i).cell? ⟨w.heap.size, 4, none⟩ = some (.int .i64 c.F) := fun i => by rw [(hR i).2.1.at]; rfl
    have qhC5 : ∀ i, (F i).cell? ⟨w.heap.size, 5, none⟩ = some (.slice ca c.P.length cc) := fun i => by rw [(hR i).2.1.at]; rfl
    have K_hC := Lib.hid (fun i => (hR i).2.1)
    have qhK0 : ∀ i, (F i).cell? ⟨w.heap.size + 1, 0, none⟩ = some (.int .i64 f.K) := fun i => by rw [(hR i).2.2.1.at]; rfl
    have qhK1 : ∀ i, (F i).cell? ⟨w.heap.size + 1, 1, none⟩ = some (.int .i64 f.R) := fun i => by rw [(hR i).2.2.1.at]; rfl
    have qhK2 : ∀ i, (F i).cell? ⟨w.heap.size + 1, 2, none⟩ = some (.int .i64 f.S) := fun i => by rw [(hR i).2.2.1.at]; rfl
    have qhK3 : ∀ i, (F i).cell? ⟨w.heap.size + 1, 3, none⟩ = some (.int .i64 f.P.K) := fun i => by rw [(hR i).2.2.1.at]; rfl
    have qhK4 : ∀ i, (F i).cell? ⟨w.heap.size + 1, 4, none⟩ = some (.int .i64 f.P.V) := fun i => by rw [(hR i).2.2.1.at]; rfl
    have qhK5 : ∀ i, (F i).cell? ⟨w.heap.size + 1, 5, none⟩ = some (.slice a f.E.length cap) := fun i => by rw [(hR i).2.2.1.at]; rfl
    have K_hK := Lib.hid (fun i => (hR i).2.2.1)
    have K_hE := Lib.hid (fun i => (hR i).2.2.2)
    have HR := Lib.hid hR
    have HC := Lib.hid hcl
    have H0 := Lib.hid h0
    clear hR hcl h0
    haveI : Nonempty I := ⟨i0⟩
    refine wp_region_class F i0 H0.out (by kernel_rfl) (by kernel_rfl) ?_
    repeat (go_big_quiet_step ((first | (go_at_call 17; exact class_call HC.out (rslots_any c ca cc _ hc)))))
    refine wpQuiet_nil ?_
    intro _ hw'
    obtain ⟨iq, hw''⟩ := hw'
    subst hw''
    clear hB hC hK hE K_hB qhC0 qhC1 qhC2 qhC3 qhC4 qhC5 K_hC qhK0 qhK1 qhK2 qhK3 qhK4 qhK5 K_hK K_hE HC H0
    obtain ⟨hB, hC, hK, hE⟩ := HR.out iq
    clear HR
    generalize F iq = wn at *
    have hQf := hK.at
    unfold frBox at hQf
    have hQc := hC.at
    unfold confBox at hQc
    go_wp2
    go_ret
    exact ⟨ret_int HF.out.symm, hB⟩
  have e2 : decide (3 < f.K) = false := by simpa using k2
  by_cases k3 : f.K = 3
  · have e3 : (f.K != 3) = false := by simpa using k3
    have e4 : (f.K == 3) = true := by simpa using k3
    have HK := Lib.hid (show badK c f = false by simp [badK, k3])
    have HB := Lib.hid e4
    clear k3
    cases hp : itemB f.P true
    · have HF := Lib.hid (checkF_p c f HA.out HK.out (by unfold badP; rw [HB.out, hp]; rfl))
      have HP := Lib.hid hp
      clear hp k1 k2 a1 a2 a3 a4
      go_enter Tryd.func52, Tryd.ntmps52
      go_wp2_with fail
      generalize ((w.alloc (.cells #[.int .i64 c.N, .int .i64 c.Pi, .int .i64 c.E, .int .i64 c.G, .int .i64 c.F, .slice ca c.P.length cc] 24)).alloc (.cells #[.int .i64 f.K, .int .i64 f.R, .int .i64 f.S, .int .i64 f.P.K, .int .i64 f.P.V, .slice a f.E.length cap] 29)) = wn at *
      obtain ⟨I, F, i0, h0, hR, hcl⟩ := class_any wn (stable_and (stable_below w) (stable_and (stable_blk w.heap.size 24 (confBox c ca cc)) (stable_and (stable_blk (w.heap.size + 1) 29 (frBox f a cap)) (stable_rowT a f.E)))) ⟨hB, hC, hK, hE⟩
      have K_hB := Lib.hid (fun i => (hR i).1)
      have qhC0 : ∀ i, (F i).cell? ⟨w.heap.size, 0, none⟩ = some (.int .i64 c.N) := fun i => by rw [(hR i).2.1.at]; rfl
      have qhC1 : ∀ i, (F i).cell? ⟨w.heap.size, 1, none⟩ = some (.int .i64 c.Pi) := fun i => by rw [(hR i).2.1.at]; rfl
      have qhC2 : ∀ i, (F i).cell? ⟨w.heap.size, 2, none⟩ = some (.int .i64 c.E) := fun i => by rw [(hR i).2.1.at]; rfl
      have qhC3 : ∀ i, (F i).cell? ⟨w.heap.size, 3, none⟩ = some (.int .i64 c.G) := fun i => by rw [(hR i).2.1.at]; rfl
      have qhC4 : ∀ i, (F i).cell? ⟨w.heap.size, 4, none⟩ = some (.int .i64 c.F) := fun i => by rw [(hR i).2.1.at]; rfl
      have qhC5 : ∀ i, (F i).cell? ⟨w.heap.size, 5, none⟩ = some (.slice ca c.P.length cc) := fun i => by rw [(hR i).2.1.at]; rfl
      have K_hC := Lib.hid (fun i => (hR i).2.1)
      have qhK0 : ∀ i, (F i).cell? ⟨w.heap.size + 1, 0, none⟩ = some (.int .i64 f.K) := fun i => by rw [(hR i).2.2.1.at]; rfl
      have qhK1 : ∀ i, (F i).cell? ⟨w.heap.size + 1, 1, none⟩ = some (.int .i64 f.R) := fun i => by rw [(hR i).2.2.1.at]; rfl
      have qhK2 : ∀ i, (F i).cell? ⟨w.heap.size + 1, 2, none⟩ = some (.int .i64 f.S) := fun i => by rw [(hR i).2.2.1.at]; rfl
      have qhK3 : ∀ i, (F i).cell? ⟨w.heap.size + 1, 3, none⟩ = some (.int .i64 f.P.K) := fun i => by rw [(hR i).2.2.1.at]; rfl
      have qhK4 : ∀ i, (F i).cell? ⟨w.heap.size + 1, 4, none⟩ = some (.int .i64 f.P.V) := fun i => by rw [(hR i).2.2.1.at]; rfl
      have qhK5 : ∀ i, (F i).cell? ⟨w.heap.size + 1, 5, none⟩ = some (.slice a f.E.length cap) := fun i => by rw [(hR i).2.2.1.at]; rfl
      have K_hK := Lib.hid (fun i => (hR i).2.2.1)
      have K_hE := Lib.hid (fun i => (hR i).2.2.2)
      have HR := Lib.hid hR
      have HC := Lib.hid hcl
      have H0 := Lib.hid h0
      clear hR hcl h0
      haveI : Nonempty I := ⟨i0⟩
      refine wp_region_class F i0 H0.out (by kernel_rfl) (by kernel_rfl) ?_
      repeat (go_big_quiet_step ((first | (go_at_call 17; exact class_call HC.out (rslots_any c ca cc _ hc)))))
      refine wpQuiet_nil ?_
      intro _ hw'
      obtain ⟨iq, hw''⟩ := hw'
      subst hw''
      clear hB hC hK hE K_hB qhC0 qhC1 qhC2 qhC3 qhC4 qhC5 K_hC qhK0 qhK1 qhK2 qhK3 qhK4 qhK5 K_hK K_hE HC H0
      obtain ⟨hB, hC, hK, hE⟩ := HR.out iq
      clear HR
      generalize F iq = wn at *
      have hQf := hK.at
      unfold frBox at hQf
      have hQc := hC.at
      unfold confBox at hQc
      go_wp2_with fail
      refine (ritem_any f.P true _).mono ?_
      rintro e wm ⟨rfl, hb⟩
      rw [HP.out]
      clear hQf hQc
      replace hB := hB.trans (hb.mono hB.size)
      replace hC := hC.later hb
      replace hK := hK.later hb
      replace hE := hE.later hb
      clear hb
      have hQf := hK.at
      unfold frBox at hQf
      go_wp2
      go_ret
      exact ⟨ret_int HF.out.symm, hB⟩
    · have HP := Lib.hid hp
      clear hp
      have HQ := Lib.hid (show badP f = false by unfold badP; rw [HB.out, HP.out, e3]; simp)
      by_cases hl : (f.E.length : Int) = echoI c f.K f.S
      · have dl : ((f.E.length : Int) != echoI c f.K f.S) = false := by simpa using hl
        have HL := Lib.hid (checkF_e c f HA.out HK.out HQ.out hl)
        clear hl k1 k2 a1 a2 a3 a4
        go_enter Tryd.func52, Tryd.ntmps52
        go_wp2_with fail
        generalize ((w.alloc (.cells #[.int .i64 c.N, .int .i64 c.Pi, .int .i64 c.E, .int .i64 c.G, .int .i64 c.F, .slice ca c.P.length cc] 24)).alloc (.cells #[.int .i64 f.K, .int .i64 f.R, .int .i64 f.S, .int .i64 f.P.K, .int .i64 f.P.V, .slice a f.E.length cap] 29)) = wn at *
        obtain ⟨I, F, i0, h0, hR, hcl⟩ := class_any wn (stable_and (stable_below w) (stable_and (stable_blk w.heap.size 24 (confBox c ca cc)) (stable_and (stable_blk (w.heap.size + 1) 29 (frBox f a cap)) (stable_rowT a f.E)))) ⟨hB, hC, hK, hE⟩
        have K_hB := Lib.hid (fun i => (hR i).1)
        have qhC0 : ∀ i, (F i).cell? ⟨w.heap.size, 0, none⟩ = some (.int .i64 c.N) := fun i => by rw [(hR i).2.1.at]; rfl
        have qhC1 : ∀ i, (F i).cell? ⟨w.heap.size, 1, none⟩ = some (.int .i64 c.Pi) := fun i => by rw [(hR i).2.1.at]; rfl
        have qhC2 : ∀ i, (F i).cell? ⟨w.heap.size, 2, none⟩ = some (.int .i64 c.E) := fun i => by rw [(hR i).2.1.at]; rfl
        have qhC3 : ∀ i, (F i).cell? ⟨w.heap.size, 3, none⟩ = some (.int .i64 c.G) := fun i => by rw [(hR i).2.1.at]; rfl
        have qhC4 : ∀ i, (F i).cell? ⟨w.heap.size, 4, none⟩ = some (.int .i64 c.F) := fun i => by rw [(hR i).2.1.at]; rfl
        have qhC5 : ∀ i, (F i).cell? ⟨w.heap.size, 5, none⟩ = some (.slice ca c.P.length cc) := fun i => by rw [(hR i).2.1.at]; rfl
        have K_hC := Lib.hid (fun i => (hR i).2.1)
        have qhK0 : ∀ i, (F i).cell? ⟨w.heap.size + 1, 0, none⟩ = some (.int .i64 f.K) := fun i => by rw [(hR i).2.2.1.at]; rfl
        have qhK1 : ∀ i, (F i).cell? ⟨w.heap.size + 1, 1, none⟩ = some (.int .i64 f.R) := fun i => by rw [(hR i).2.2.1.at]; rfl
        have qhK2 : ∀ i, (F i).cell? ⟨w.heap.size + 1, 2, none⟩ = some (.int .i64 f.S) := fun i => by rw [(hR i).2.2.1.at]; rfl
        have qhK3 : ∀ i, (F i).cell? ⟨w.heap.size + 1, 3, none⟩ = some (.int .i64 f.P.K) := fun i => by rw [(hR i).2.2.1.at]; rfl
        have qhK4 : ∀ i, (F i).cell? ⟨w.heap.size + 1, 4, none⟩ = some (.int .i64 f.P.V) := fun i => by rw [(hR i).2.2.1.at]; rfl
        have qhK5 : ∀ i, (F i).cell? ⟨w.heap.size + 1, 5, none⟩ = some (.slice a f.E.length cap) := fun i => by rw [(hR i).2.2.1.at]; rfl
        have K_hK := Lib.hid (fun i => (hR i).2.2.1)
        have K_hE := Lib.hid (fun i => (hR i).2.2.2)
        have HR := Lib.hid hR
        have HC := Lib.hid hcl
        have H0 := Lib.hid h0
        clear hR hcl h0
        haveI : Nonempty I := ⟨i0⟩
        refine wp_region_class F i0 H0.out (by kernel_rfl) (by kernel_rfl) ?_
        repeat (go_big_quiet_step ((first | (go_at_call 17; exact class_call HC.out (rslots_any c ca cc _ hc)))))
        refine wpQuiet_nil ?_
        intro _ hw'
        obtain ⟨iq, hw''⟩ := hw'
        subst hw''
        clear hB hC hK hE K_hB qhC0 qhC1 qhC2 qhC3 qhC4 qhC5 K_hC qhK0 qhK1 qhK2 qhK3 qhK4 qhK5 K_hK K_hE HC H0
        obtain ⟨hB, hC, hK, hE⟩ := HR.out iq
        clear HR
        generalize F iq = wn at *
        have hQf := hK.at
        unfold frBox at hQf
        have hQc := hC.at
        unfold confBox at hQc
        go_wp2_with fail
        refine (ritem_any f.P true _).mono ?_
        rintro e wm ⟨rfl, hb⟩
        rw [HP.out]
        clear hQf hQc
        replace hB := hB.trans (hb.mono hB.size)
        replace hC := hC.later hb
        replace hK := hK.later hb
        replace hE := hE.later hb
        clear hb
        have hQf := hK.at
        unfold frBox at hQf
        go_wp2_with fail
        clear hQf
        obtain ⟨I, F, i0, h0, hR, hcl⟩ := class_any wm (stable_and (stable_below w) (stable_and (stable_blk w.heap.size 24 (confBox c ca cc)) (stable_and (stable_blk (w.heap.size + 1) 29 (frBox f a cap)) (stable_rowT a f.E)))) ⟨hB, hC, hK, hE⟩
        have K_hB := Lib.hid (fun i => (hR i).1)
        have qhC0 : ∀ i, (F i).cell? ⟨w.heap.size, 0, none⟩ = some (.int .i64 c.N) := fun i => by rw [(hR i).2.1.at]; rfl
        have qhC1 : ∀ i, (F i).cell? ⟨w.heap.size, 1, none⟩ = some (.int .i64 c.Pi) := fun i => by rw [(hR i).2.1.at]; rfl
        have qhC2 : ∀ i, (F i).cell? ⟨w.heap.size, 2, none⟩ = some (.int .i64 c.E) := fun i => by rw [(hR i).2.1.at]; rfl
        have qhC3 : ∀ i, (F i).cell? ⟨w.heap.size, 3, none⟩ = some (.int .i64 c.G) := fun i => by rw [(hR i).2.1.at]; rfl
        have qhC4 : ∀ i, (F i).cell? ⟨w.heap.size, 4, none⟩ = some (.int .i64 c.F) := fun i => by rw [(hR i).2.1.at]; rfl
        have qhC5 : ∀ i, (F i).cell? ⟨w.heap.size, 5, none⟩ = some (.slice ca c.P.length cc) := fun i => by rw [(hR i).2.1.at]; rfl
        have K_hC := Lib.hid (fun i => (hR i).2.1)
        have qhK0 : ∀ i, (F i).cell? ⟨w.heap.size + 1, 0, none⟩ = some (.int .i64 f.K) := fun i => by rw [(hR i).2.2.1.at]; rfl
        have qhK1 : ∀ i, (F i).cell? ⟨w.heap.size + 1, 1, none⟩ = some (.int .i64 f.R) := fun i => by rw [(hR i).2.2.1.at]; rfl
        have qhK2 : ∀ i, (F i).cell? ⟨w.heap.size + 1, 2, none⟩ = some (.int .i64 f.S) := fun i => by rw [(hR i).2.2.1.at]; rfl
        have qhK3 : ∀ i, (F i).cell? ⟨w.heap.size + 1, 3, none⟩ = some (.int .i64 f.P.K) := fun i => by rw [(hR i).2.2.1.at]; rfl
        have qhK4 : ∀ i, (F i).cell? ⟨w.heap.size + 1, 4, none⟩ = some (.int .i64 f.P.V) := fun i => by rw [(hR i).2.2.1.at]; rfl
        have qhK5 : ∀ i, (F i).cell? ⟨w.heap.size + 1, 5, none⟩ = some (.slice a f.E.length cap) := fun i => by rw [(hR i).2.2.1.at]; rfl
        have K_hK := Lib.hid (fun i => (hR i).2.2.1)
        have K_hE := Lib.hid (fun i => (hR i).2.2.2)
        have HR := Lib.hid hR
        have HC := Lib.hid hcl
        have H0 := Lib.hid h0
        clear hR hcl h0
        haveI : Nonempty I := ⟨i0⟩
        refine wp_region_class F i0 H0.out (by kernel_rfl) (by kernel_rfl) ?_
        repeat (go_big_quiet_step ((first | (go_at_call 51; exact class_call HC.out (rechoes_any c ca cc _ _ _ hc)))))
        refine wpQuiet_nil ?_
        intro _ hw'
        obtain ⟨iq, hw''⟩ := hw'
        subst hw''
        clear hB hC hK hE K_hB qhC0 qhC1 qhC2 qhC3 qhC4 qhC5 K_hC qhK0 qhK1 qhK2 qhK3 qhK4 qhK5 K_hK K_hE HC H0
        obtain ⟨hB, hC, hK, hE⟩ := HR.out iq
        clear HR
        generalize F iq = wm at *
        go_wp2
        go_loopw [5] (fun i w' => CheckAt c ca cc f a cap w i w') (fun i _ => f.E.length - (intOf i).toNat)
        case atStart => exact ⟨0, Nat.zero_le _, rfl, by simp, hB, hK⟩
        case round =>
          have hS := hB.size
          obtain ⟨k, hk, rfl, ha, hB', hK'⟩ := hrel
          have HT := Lib.hid ha
          clear ha hK hC
          have hQf := hK'.at
          unfold frBox at hQf
          by_cases hlt : k < f.E.length
          · have dk : decide (k < f.E.length) = true := by simpa using hlt
            obtain ⟨b, off, rfl, hbl, c1, c2, _, _⟩ := (hE0.out wr hB').get k hlt
            cases hx : itemB f.E[k] false
            · have HF := Lib.hid (show checkF c f = 1 by rw [HL.out, all_no f.E k hlt hx]; rfl)
              have HI := Lib.hid (fun W => ritem_any f.E[k] false W)
              rw [hx] at HI
              clear hx
              generalize f.E[k] = t at *
              go_wp2_with fail
              refine (HI.out _).mono ?_
              rintro e wq ⟨rfl, hb⟩
              go_wp2
              go_ret
              exact ⟨ret_int HF.out.symm, hB'.trans (hb.mono hB'.size)⟩
            · have HS := Lib.hid (all_step f.E k hlt HT.out hx)
              have HI := Lib.hid (fun W => ritem_any f.E[k] false W)
              rw [hx] at HI
              clear hx
              generalize f.E[k] = t at *
              go_wp2_with fail
              refine (HI.out _).mono ?_
              rintro e wq ⟨rfl, hb⟩
              clear hQf
              replace hB' := hB'.trans (hb.mono hB'.size)
              replace hK' := hK'.later hb
              clear hb
              go_wp2
              go_roundw
              case rel => exact ⟨k + 1, by omega, by go_num, HS.out, hB', hK'⟩
              case measure => simp [intOf]; omega
          · have dk : decide (k < f.E.length) = false := by simpa using hlt
            have HF := Lib.hid (show checkF c f = 0 by rw [HL.out, all_end f.E k hlt HT.out]; rfl)
            go_wp2
            go_ret
            exact ⟨ret_int HF.out.symm, hB'⟩
      · have dl : ((f.E.length : Int) != echoI c f.K f.S) = true := by simpa using hl
        have HF := Lib.hid (checkF_l c f HA.out HK.out HQ.out hl)
        clear hl k1 k2 a1 a2 a3 a4
        go_enter Tryd.func52, Tryd.ntmps52
        go_wp2_with fail
        generalize ((w.alloc (.cells #[.int .i64 c.N, .int .i64 c.Pi, .int .i64 c.E, .int .i64 c.G, .int .i64 c.F, .slice ca c.P.length cc] 24)).alloc (.cells #[.int .i64 f.K, .int .i64 f.R, .int .i64 f.S, .int .i64 f.P.K, .int .i64 f.P.V, .slice a f.E.length cap] 29)) = wn at *
        obtain ⟨I, F, i0, h0, hR, hcl⟩ := class_any wn (stable_and (stable_below w) (stable_and (stable_blk w.heap.size 24 (confBox c ca cc)) (stable_and (stable_blk (w.heap.size + 1) 29 (frBox f a cap)) (stable_rowT a f.E)))) ⟨hB, hC, hK, hE⟩
        have K_hB := Lib.hid (fun i => (hR i).1)
        have qhC0 : ∀ i, (F i).cell? ⟨w.heap.size, 0, none⟩ = some (.int .i64 c.N) := fun i => by rw [(hR i).2.1.at]; rfl
        have qhC1 : ∀ i, (F i).cell? ⟨w.heap.size, 1, none⟩ = some (.int .i64 c.Pi) := fun i => by rw [(hR i).2.1.at]; rfl
        have qhC2 : ∀ i, (F i).cell? ⟨w.heap.size, 2, none⟩ = some (.int .i64 c.E) := fun i => by rw [(hR i).2.1.at]; rfl
        have qhC3 : ∀ i, (F i).cell? ⟨w.heap.size, 3, none⟩ = some (.int .i64 c.G) := fun i => by rw [(hR i).2.1.at]; rfl
        have qhC4 : ∀ i, (F i).cell? ⟨w.heap.size, 4, none⟩ = some (.int .i64 c.F) := fun i => by rw [(hR i).2.1.at]; rfl
        have qhC5 : ∀ i, (F i).cell? ⟨w.heap.size, 5, none⟩ = some (.slice ca c.P.length cc) := fun i => by rw [(hR i).2.1.at]; rfl
        have K_hC := Lib.hid (fun i => (hR i).2.1)
        have qhK0 : ∀ i, (F i).cell? ⟨w.heap.size + 1, 0, none⟩ = some (.int .i64 f.K) := fun i => by rw [(hR i).2.2.1.at]; rfl
        have qhK1 : ∀ i, (F i).cell? ⟨w.heap.size + 1, 1, none⟩ = some (.int .i64 f.R) := fun i => by rw [(hR i).2.2.1.at]; rfl
        have qhK2 : ∀ i, (F i).cell? ⟨w.heap.size + 1, 2, none⟩ = some (.int .i64 f.S) := fun i => by rw [(hR i).2.2.1.at]; rfl
        have qhK3 : ∀ i, (F i).cell? ⟨w.heap.size + 1, 3, none⟩ = some (.int .i64 f.P.K) := fun i => by rw [(hR i).2.2.1.at]; rfl
        have qhK4 : ∀ i, (F i).cell? ⟨w.heap.size + 1, 4, none⟩ = some (.int .i64 f.P.V) := fun i => by rw [(hR i).2.2.1.at]; rfl
        have qhK5 : ∀ i, (F i).cell? ⟨w.heap.size + 1, 5, none⟩ = some (.slice a f.E.length cap) := fun i => by rw [(hR i).2.2.1.at]; rfl
        have K_hK := Lib.hid (fun i => (hR i).2.2.1)
        have K_hE := Lib.hid (fun i => (hR i).2.2.2)
        have HR := Lib.hid hR
        have HC := Lib.hid hcl
        have H0 := Lib.hid h0
        clear hR hcl h0
        haveI : Nonempty I := ⟨i0⟩
        refine wp_region_class F i0 H0.out (by kernel_rfl) (by kernel_rfl) ?_
        repeat (go_big_quiet_step ((first | (go_at_call 17; exact class_call HC.out (rslots_any c ca cc _ hc)))))
        refine wpQuiet_nil ?_
        intro _ hw'
        obtain ⟨iq, hw''⟩ := hw'
        subst hw''
        clear hB hC hK hE K_hB qhC0 qhC1 qhC2 qhC3 qhC4 qhC5 K_hC qhK0 qhK1 qhK2 qhK3 qhK4 qhK5 K_hK K_hE HC H0
        obtain ⟨hB, hC, hK, hE⟩ := HR.out iq
        clear HR
        generalize F iq = wn at *
        have hQf := hK.at
        unfold frBox at hQf
        have hQc := hC.at
        unfold confBox at hQc
        go_wp2_with fail
        refine (ritem_any f.P true _).mono ?_
        rintro e wm ⟨rfl, hb⟩
        rw [HP.out]
        clear hQf hQc
        replace hB := hB.trans (hb.mono hB.size)
        replace hC := hC.later hb
        replace hK := hK.later hb
        replace hE := hE.later hb
        clear hb
        have hQf := hK.at
        unfold frBox at hQf
        go_wp2_with fail
        clear hQf
        obtain ⟨I, F, i0, h0, hR, hcl⟩ := class_any wm (stable_and (stable_below w) (stable_and (stable_blk w.heap.size 24 (confBox c ca cc)) (stable_and (stable_blk (w.heap.size + 1) 29 (frBox f a cap)) (stable_rowT a f.E)))) ⟨hB, hC, hK, hE⟩
        have K_hB := Lib.hid (fun i => (hR i).1)
        have qhC0 : ∀ i, (F i).cell? ⟨w.heap.size, 0, none⟩ = some (.int .i64 c.N) := fun i => by rw [(hR i).2.1.at]; rfl
        have qhC1 : ∀ i, (F i).cell? ⟨w.heap.size, 1, none⟩ = some (.int .i64 c.Pi) := fun i => by rw [(hR i).2.1.at]; rfl
        have qhC2 : ∀ i, (F i).cell? ⟨w.heap.size, 2, none⟩ = some (.int .i64 c.E) := fun i => by rw [(hR i).2.1.at]; rfl
        have qhC3 : ∀ i, (F i).cell? ⟨w.heap.size, 3, none⟩ = some (.int .i64 c.G) := fun i => by rw [(hR i).2.1.at]; rfl
        have qhC4 : ∀ i, (F i).cell? ⟨w.heap.size, 4, none⟩ = some (.int .i64 c.F) := fun i => by rw [(hR i).2.1.at]; rfl
        have qhC5 : ∀ i, (F i).cell? ⟨w.heap.size, 5, none⟩ = some (.slice ca c.P.length cc) := fun i => by rw [(hR i).2.1.at]; rfl
        have K_hC := Lib.hid (fun i => (hR i).2.1)
        have qhK0 : ∀ i, (F i).cell? ⟨w.heap.size + 1, 0, none⟩ = some (.int .i64 f.K) := fun i => by rw [(hR i).2.2.1.at]; rfl
        have qhK1 : ∀ i, (F i).cell? ⟨w.heap.size + 1, 1, none⟩ = some (.int .i64 f.R) := fun i => by rw [(hR i).2.2.1.at]; rfl
        have qhK2 : ∀ i, (F i).cell? ⟨w.heap.size + 1, 2, none⟩ = some (.int .i64 f.S) := fun i => by rw [(hR i).2.2.1.at]; rfl
        have qhK3 : ∀ i, (F i).cell? ⟨w.heap.size + 1, 3, none⟩ = some (.int .i64 f.P.K) := fun i => by rw [(hR i).2.2.1.at]; rfl
        have qhK4 : ∀ i, (F i).cell? ⟨w.heap.size + 1, 4, none⟩ = some (.int .i64 f.P.V) := fun i => by rw [(hR i).2.2.1.at]; rfl
        have qhK5 : ∀ i, (F i).cell? ⟨w.heap.size + 1, 5, none⟩ = some (.slice a f.E.length cap) := fun i => by rw [(hR i).2.2.1.at]; rfl
        have K_hK := Lib.hid (fun i => (hR i).2.2.1)
        have K_hE := Lib.hid (fun i => (hR i).2.2.2)
        have HR := Lib.hid hR
        have HC := Lib.hid hcl
        have H0 := Lib.hid h0
        clear hR hcl h0
        haveI : Nonempty I := ⟨i0⟩
        refine wp_region_class F i0 H0.out (by kernel_rfl) (by kernel_rfl) ?_
        repeat (go_big_quiet_step ((first | (go_at_call 51; exact class_call HC.out (rechoes_any c ca cc _ _ _ hc)))))
        refine wpQuiet_nil ?_
        intro _ hw'
        obtain ⟨iq, hw''⟩ := hw'
        subst hw''
        clear hB hC hK hE K_hB qhC0 qhC1 qhC2 qhC3 qhC4 qhC5 K_hC qhK0 qhK1 qhK2 qhK3 qhK4 qhK5 K_hK K_hE HC H0
        obtain ⟨hB, hC, hK, hE⟩ := HR.out iq
        clear HR
        generalize F iq = wm at *
        go_wp2
        go_ret
        exact ⟨ret_int HF.out.symm, hB⟩
  · have e3 : (f.K != 3) = true := by simpa using k3
    have e4 : (f.K == 3) = false := by simpa using k3
    have HB := Lib.hid e4
    by_cases k4 : c.N ≤ f.S
    · have e6 : decide (c.N ≤ f.S) = true := by simpa using k4
      have HF := Lib.hid (checkF_k c f HA.out (by simp [badK, k3, k4]))
      clear k3 k4 k1 k2 a1 a2 a3 a4
      go_enter Tryd.func52, Tryd.ntmps52
      go_wp2_with fail
      generalize ((w.alloc (.cells #[.int .i64 c.N, .int .i64 c.Pi, .int .i64 c.E, .int .i64 c.G, .int .i64 c.F, .slice ca c.P.length cc] 24)).alloc (.cells #[.int .i64 f.K, .int .i64 f.R, .int .i64 f.S, .int .i64 f.P.K, .int .i64 f.P.V, .slice a f.E.length cap] 29)) = wn at *
      obtain ⟨I, F, i0, h0, hR, hcl⟩ := class_any wn (stable_and (stable_below w) (stable_and (stable_blk w.heap.size 24 (confBox c ca cc)) (stable_and (stable_blk (w.heap.size + 1) 29 (frBox f a cap)) (stable_rowT a f.E)))) ⟨hB, hC, hK, hE⟩
      have K_hB := Lib.hid (fun i => (hR i).1)
      have qhC0 : ∀ i, (F i).cell? ⟨w.heap.size, 0, none⟩ = some (.int .i64 c.N) := fun i => by rw [(hR i).2.1.at]; rfl
      have qhC1 : ∀ i, (F i).cell? ⟨w.heap.size, 1, none⟩ = some (.int .i64 c.Pi) := fun i => by rw [(hR i).2.1.at]; rfl
      have qhC2 : ∀ i, (F i).cell? ⟨w.heap.size, 2, none⟩ = some (.int .i64 c.E) := fun i => by rw [(hR i).2.1.at]; rfl
      have qhC3 : ∀ i, (F i).cell? ⟨w.heap.size, 3, none⟩ = some (.int .i64 c.G) := fun i => by rw [(hR i).2.1.at]; rfl
      have qhC4 : ∀ i, (F i).cell? ⟨w.heap.size, 4, none⟩ = some (.int .i64 c.F) := fun i => by rw [(hR i).2.1.at]; rfl
      have qhC5 : ∀ i, (F i).cell? ⟨w.heap.size, 5, none⟩ = some (.slice ca c.P.length cc) := fun i => by rw [(hR i).2.1.at]; rfl
      have K_hC := Lib.hid (fun i => (hR i).2.1)
      have qhK0 : ∀ i, (F i).cell? ⟨w.heap.size + 1, 0, none⟩ = some (.int .i64 f.K) := fun i => by rw [(hR i).2.2.1.at]; rfl
      have qhK1 : ∀ i, (F i).cell? ⟨w.heap.size + 1, 1, none⟩ = some (.int .i64 f.R) := fun i => by rw [(hR i).2.2.1.at]; rfl
      have qhK2 : ∀ i, (F i).cell? ⟨w.heap.size + 1, 2, none⟩ = some (.int .i64 f.S) := fun i => by rw [(hR i).2.2.1.at]; rfl
      have qhK3 : ∀ i, (F i).cell? ⟨w.heap.size + 1, 3, none⟩ = some (.int .i64 f.P.K) := fun i => by rw [(hR i).2.2.1.at]; rfl
      have qhK4 : ∀ i, (F i).cell? ⟨w.heap.size + 1, 4, none⟩ = some (.int .i64 f.P.V) := fun i => by rw [(hR i).2.2.1.at]; rfl
      have qhK5 : ∀ i, (F i).cell? ⟨w.heap.size + 1, 5, none⟩ = some (.slice a f.E.length cap) := fun i => by rw [(hR i).2.2.1.at]; rfl
      have K_hK := Lib.hid (fun i => (hR i).2.2.1)
      have K_hE := Lib.hid (fun i => (hR i).2.2.2)
      have HR := Lib.hid hR
      have HC := Lib.hid hcl
      have H0 := Lib.hid h0
      clear hR hcl h0
      haveI : Nonempty I := ⟨i0⟩
      refine wp_region_class F i0 H0.out (by kernel_rfl) (by kernel_rfl) ?_
      repeat (go_big_quiet_step ((first | (go_at_call 17; exact class_call HC.out (rslots_any c ca cc _ hc)))))
      refine wpQuiet_nil ?_
      intro _ hw'
      obtain ⟨iq, hw''⟩ := hw'
      subst hw''
      clear hB hC hK hE K_hB qhC0 qhC1 qhC2 qhC3 qhC4 qhC5 K_hC qhK0 qhK1 qhK2 qhK3 qhK4 qhK5 K_hK K_hE HC H0
      obtain ⟨hB, hC, hK, hE⟩ := HR.out iq
      clear HR
      generalize F iq = wn at *
      have hQf := hK.at
      unfold frBox at hQf
      have hQc := hC.at
      unfold confBox at hQc
      go_wp2
      go_ret
      exact ⟨ret_int HF.out.symm, hB⟩
    · have e6 : decide (c.N ≤ f.S) = false := by simpa using k4
      have HK := Lib.hid (show badK c f = false by simp [badK, k1, k2, k4])
      clear k3 k4
      cases hp : itemB f.P false
      · have HF := Lib.hid (checkF_p c f HA.out HK.out (by unfold badP; rw [HB.out, hp]; rfl))
        have HP := Lib.hid hp
        clear hp k1 k2 a1 a2 a3 a4
        go_enter Tryd.func52, Tryd.ntmps52
        go_wp2_with fail
        generalize ((w.alloc (.cells #[.int .i64 c.N, .int .i64 c.Pi, .int .i64 c.E, .int .i64 c.G, .int .i64 c.F, .slice ca c.P.length cc] 24)).alloc (.cells #[.int .i64 f.K, .int .i64 f.R, .int .i64 f.S, .int .i64 f.P.K, .int .i64 f.P.V, .slice a f.E.length cap] 29)) = wn at *
        obtain ⟨I, F, i0, h0, hR, hcl⟩ := class_any wn (stable_and (stable_below w) (stable_and (stable_blk w.heap.size 24 (confBox c ca cc)) (stable_and (stable_blk (w.heap.size + 1) 29 (frBox f a cap)) (stable_rowT a f.E)))) ⟨hB, hC, hK, hE⟩
        have K_hB := Lib.hid (fun i => (hR i).1)
        have qhC0 : ∀ i, (F i).cell? ⟨w.heap.size, 0, none⟩ = some (.int .i64 c.N) := fun i => by rw [(hR i).2.1.at]; rfl
        have qhC1 : ∀ i, (F i).cell? ⟨w.heap.size, 1, none⟩ = some (.int .i64 c.Pi) := fun i => by rw [(hR i).2.1.at]; rfl
        have qhC2 : ∀ i, (F i).cell? ⟨w.heap.size, 2, none⟩ = some (.int .i64 c.E) := fun i => by rw [(hR i).2.1.at]; rfl
        have qhC3 : ∀ i, (F i).cell? ⟨w.heap.size, 3, none⟩ = some (.int .i64 c.G) := fun i => by rw [(hR i).2.1.at]; rfl
        have qhC4 : ∀ i, (F i).cell? ⟨w.heap.size, 4, none⟩ = some (.int .i64 c.F) := fun i => by rw [(hR i).2.1.at]; rfl
        have qhC5 : ∀ i, (F i).cell? ⟨w.heap.size, 5, none⟩ = some (.slice ca c.P.length cc) := fun i => by rw [(hR i).2.1.at]; rfl
        have K_hC := Lib.hid (fun i => (hR i).2.1)
        have qhK0 : ∀ i, (F i).cell? ⟨w.heap.size + 1, 0, none⟩ = some (.int .i64 f.K) := fun i => by rw [(hR i).2.2.1.at]; rfl
        have qhK1 : ∀ i, (F i).cell? ⟨w.heap.size + 1, 1, none⟩ = some (.int .i64 f.R) := fun i => by rw [(hR i).2.2.1.at]; rfl
        have qhK2 : ∀ i, (F i).cell? ⟨w.heap.size + 1, 2, none⟩ = some (.int .i64 f.S) := fun i => by rw [(hR i).2.2.1.at]; rfl
        have qhK3 : ∀ i, (F i).cell? ⟨w.heap.size + 1, 3, none⟩ = some (.int .i64 f.P.K) := fun i => by rw [(hR i).2.2.1.at]; rfl
        have qhK4 : ∀ i, (F i).cell? ⟨w.heap.size + 1, 4, none⟩ = some (.int .i64 f.P.V) := fun i => by rw [(hR i).2.2.1.at]; rfl
        have qhK5 : ∀ i, (F i).cell? ⟨w.heap.size + 1, 5, none⟩ = some (.slice a f.E.length cap) := fun i => by rw [(hR i).2.2.1.at]; rfl
        have K_hK := Lib.hid (fun i => (hR i).2.2.1)
        have K_hE := Lib.hid (fun i => (hR i).2.2.2)
        have HR := Lib.hid hR
        have HC := Lib.hid hcl
        have H0 := Lib.hid h0
        clear hR hcl h0
        haveI : Nonempty I := ⟨i0⟩
        refine wp_region_class F i0 H0.out (by kernel_rfl) (by kernel_rfl) ?_
        repeat (go_big_quiet_step ((first | (go_at_call 17; exact class_call HC.out (rslots_any c ca cc _ hc)))))
        refine wpQuiet_nil ?_
        intro _ hw'
        obtain ⟨iq, hw''⟩ := hw'
        subst hw''
        clear hB hC hK hE K_hB qhC0 qhC1 qhC2 qhC3 qhC4 qhC5 K_hC qhK0 qhK1 qhK2 qhK3 qhK4 qhK5 K_hK K_hE HC H0
        obtain ⟨hB, hC, hK, hE⟩ := HR.out iq
        clear HR
        generalize F iq = wn at *
        have hQf := hK.at
        unfold frBox at hQf
        have hQc := hC.at
        unfold confBox at hQc
        go_wp2_with fail
        refine (ritem_any f.P false _).mono ?_
        rintro e wm ⟨rfl, hb⟩
        rw [HP.out]
        clear hQf hQc
        replace hB := hB.trans (hb.mono hB.size)
        replace hC := hC.later hb
        replace hK := hK.later hb
        replace hE := hE.later hb
        clear hb
        have hQf := hK.at
        unfold frBox at hQf
        go_wp2
        go_ret
        exact ⟨ret_int HF.out.symm, hB⟩
      · have HP := Lib.hid hp
        clear hp
        by_cases p0 : f.P.K = 0
        · have e5 : (f.P.K != 0) = false := by simpa using p0
          have HQ := Lib.hid (show badP f = false by unfold badP; rw [HB.out, HP.out, e5]; simp)
          clear p0
          by_cases hl : (f.E.length : Int) = echoI c f.K f.S
          · have dl : ((f.E.length : Int) != echoI c f.K f.S) = false := by simpa using hl
            have HL := Lib.hid (checkF_e c f HA.out HK.out HQ.out hl)
            clear hl k1 k2 a1 a2 a3 a4
            go_enter Tryd.func52, Tryd.ntmps52
            go_wp2_with fail
            generalize ((w.alloc (.cells #[.int .i64 c.N, .int .i64 c.Pi, .int .i64 c.E, .int .i64 c.G, .int .i64 c.F, .slice ca c.P.length cc] 24)).alloc (.cells #[.int .i64 f.K, .int .i64 f.R, .int .i64 f.S, .int .i64 f.P.K, .int .i64 f.P.V, .slice a f.E.length cap] 29)) = wn at *
            obtain ⟨I, F, i0, h0, hR, hcl⟩ := class_any wn (stable_and (stable_below w) (stable_and (stable_blk w.heap.size 24 (confBox c ca cc)) (stable_and (stable_blk (w.heap.size + 1) 29 (frBox f a cap)) (stable_rowT a f.E)))) ⟨hB, hC, hK, hE⟩
            have K_hB := Lib.hid (fun i => (hR i).1)
            have qhC0 : ∀ i, (F i).cell? ⟨w.heap.size, 0, none⟩ = some (.int .i64 c.N) := fun i => by rw [(hR i).2.1.at]; rfl
            have qhC1 : ∀ i, (F i).cell? ⟨w.heap.size, 1, none⟩ = some (.int .i64 c.Pi) := fun i => by rw [(hR i).2.1.at]; rfl
            have qhC2 : ∀ i, (F i).cell? ⟨w.heap.size, 2, none⟩ = some (.int .i64 c.E) := fun i => by rw [(hR i).2.1.at]; rfl
            have qhC3 : ∀ i, (F i).cell? ⟨w.heap.size, 3, none⟩ = some (.int .i64 c.G) := fun i => by rw [(hR i).2.1.at]; rfl
            have qhC4 : ∀ i, (F i).cell? ⟨w.heap.size, 4, none⟩ = some (.int .i64 c.F) := fun i => by rw [(hR i).2.1.at]; rfl
            have qhC5 : ∀ i, (F i).cell? ⟨w.heap.size, 5, none⟩ = some (.slice ca c.P.length cc) := fun i => by rw [(hR i).2.1.at]; rfl
            have K_hC := Lib.hid (fun i => (hR i).2.1)
            have qhK0 : ∀ i, (F i).cell? ⟨w.heap.size + 1, 0, none⟩ = some (.int .i64 f.K) := fun i => by rw [(hR i).2.2.1.at]; rfl
            have qhK1 : ∀ i, (F i).cell? ⟨w.heap.size + 1, 1, none⟩ = some (.int .i64 f.R) := fun i => by rw [(hR i).2.2.1.at]; rfl
            have qhK2 : ∀ i, (F i).cell? ⟨w.heap.size + 1, 2, none⟩ = some (.int .i64 f.S) := fun i => by rw [(hR i).2.2.1.at]; rfl
            have qhK3 : ∀ i, (F i).cell? ⟨w.heap.size + 1, 3, none⟩ = some (.int .i64 f.P.K) := fun i => by rw [(hR i).2.2.1.at]; rfl
            have qhK4 : ∀ i, (F i).cell? ⟨w.heap.size + 1, 4, none⟩ = some (.int .i64 f.P.V) := fun i => by rw [(hR i).2.2.1.at]; rfl
            have qhK5 : ∀ i, (F i).cell? ⟨w.heap.size + 1, 5, none⟩ = some (.slice a f.E.length cap) := fun i => by rw [(hR i).2.2.1.at]; rfl
            have K_hK := Lib.hid (fun i => (hR i).2.2.1)
            have K_hE := Lib.hid (fun i => (hR i).2.2.2)
            have HR := Lib.hid hR
            have HC := Lib.hid hcl
            have H0 := Lib.hid h0
            clear hR hcl h0
            haveI : Nonempty I := ⟨i0⟩
            refine wp_region_class F i0 H0.out (by kernel_rfl) (by kernel_rfl) ?_
            repeat (go_big_quiet_step ((first | (go_at_call 17; exact class_call HC.out (rslots_any c ca cc _ hc)))))
            refine wpQuiet_nil ?_
            intro _ hw'
            obtain ⟨iq, hw''⟩ := hw'
            subst hw''
            clear hB hC hK hE K_hB qhC0 qhC1 qhC2 qhC3 qhC4 qhC5 K_hC qhK0 qhK1 qhK2 qhK3 qhK4 qhK5 K_hK K_hE HC H0
            obtain ⟨hB, hC, hK, hE⟩ := HR.out iq
            clear HR
            generalize F iq = wn at *
            have hQf := hK.at
            unfold frBox at hQf
            have hQc := hC.at
            unfold confBox at hQc
            go_wp2_with fail
            refine (ritem_any f.P false _).mono ?_
            rintro e wm ⟨rfl, hb⟩
            rw [HP.out]
            clear hQf hQc
            replace hB := hB.trans (hb.mono hB.size)
            replace hC := hC.later hb
            replace hK := hK.later hb
            replace hE := hE.later hb
            clear hb
            have hQf := hK.at
            unfold frBox at hQf
            go_wp2_with fail
            clear hQf
            obtain ⟨I, F, i0, h0, hR, hcl⟩ := class_any wm (stable_and (stable_below w) (stable_and (stable_blk w.heap.size 24 (confBox c ca cc)) (stable_and (stable_blk (w.heap.size + 1) 29 (frBox f a cap)) (stable_rowT a f.E)))) ⟨hB, hC, hK, hE⟩
            have K_hB := Lib.hid (fun i => (hR i).1)
            have qhC0 : ∀ i, (F i).cell? ⟨w.heap.size, 0, none⟩ = some (.int .i64 c.N) := fun i => by rw [(hR i).2.1.at]; rfl
            have qhC1 : ∀ i, (F i).cell? ⟨w.heap.size, 1, none⟩ = some (.int .i64 c.Pi) := fun i => by rw [(hR i).2.1.at]; rfl
            have qhC2 : ∀ i, (F i).cell? ⟨w.heap.size, 2, none⟩ = some (.int .i64 c.E) := fun i => by rw [(hR i).2.1.at]; rfl
            have qhC3 : ∀ i, (F i).cell? ⟨w.heap.size, 3, none⟩ = some (.int .i64 c.G) := fun i => by rw [(hR i).2.1.at]; rfl
            have qhC4 : ∀ i, (F i).cell? ⟨w.heap.size, 4, none⟩ = some (.int .i64 c.F) := fun i => by rw [(hR i).2.1.at]; rfl
            have qhC5 : ∀ i, (F i).cell? ⟨w.heap.size, 5, none⟩ = some (.slice ca c.P.length cc) := fun i => by rw [(hR i).2.1.at]; rfl
            have K_hC := Lib.hid (fun i => (hR i).2.1)
            have qhK0 : ∀ i, (F i).cell? ⟨w.heap.size + 1, 0, none⟩ = some (.int .i64 f.K) := fun i => by rw [(hR i).2.2.1.at]; rfl
            have qhK1 : ∀ i, (F i).cell? ⟨w.heap.size + 1, 1, none⟩ = some (.int .i64 f.R) := fun i => by rw [(hR i).2.2.1.at]; rfl
            have qhK2 : ∀ i, (F i).cell? ⟨w.heap.size + 1, 2, none⟩ = some (.int .i64 f.S) := fun i => by rw [(hR i).2.2.1.at]; rfl
            have qhK3 : ∀ i, (F i).cell? ⟨w.heap.size + 1, 3, none⟩ = some (.int .i64 f.P.K) := fun i => by rw [(hR i).2.2.1.at]; rfl
            have qhK4 : ∀ i, (F i).cell? ⟨w.heap.size + 1, 4, none⟩ = some (.int .i64 f.P.V) := fun i => by rw [(hR i).2.2.1.at]; rfl
            have qhK5 : ∀ i, (F i).cell? ⟨w.heap.size + 1, 5, none⟩ = some (.slice a f.E.length cap) := fun i => by rw [(hR i).2.2.1.at]; rfl
            have K_hK := Lib.hid (fun i => (hR i).2.2.1)
            have K_hE := Lib.hid (fun i => (hR i).2.2.2)
            have HR := Lib.hid hR
            have HC := Lib.hid hcl
            have H0 := Lib.hid h0
            clear hR hcl h0
            haveI : Nonempty I := ⟨i0⟩
            refine wp_region_class F i0 H0.out (by kernel_rfl) (by kernel_rfl) ?_
            repeat (go_big_quiet_step ((first | (go_at_call 51; exact class_call HC.out (rechoes_any c ca cc _ _ _ hc)))))
            refine wpQuiet_nil ?_
            intro _ hw'
            obtain ⟨iq, hw''⟩ := hw'
            subst hw''
            clear hB hC hK hE K_hB qhC0 qhC1 qhC2 qhC3 qhC4 qhC5 K_hC qhK0 qhK1 qhK2 qhK3 qhK4 qhK5 K_hK K_hE HC H0
            obtain ⟨hB, hC, hK, hE⟩ := HR.out iq
            clear HR
            generalize F iq = wm at *
            go_wp2
            go_loopw [5] (fun i w' => CheckAt c ca cc f a cap w i w') (fun i _ => f.E.length - (intOf i).toNat)
            case atStart => exact ⟨0, Nat.zero_le _, rfl, by simp, hB, hK⟩
            case round =>
              have hS := hB.size
              obtain ⟨k, hk, rfl, ha, hB', hK'⟩ := hrel
              have HT := Lib.hid ha
              clear ha hK hC
              have hQf := hK'.at
              unfold frBox at hQf
              by_cases hlt : k < f.E.length
              · have dk : decide (k < f.E.length) = true := by simpa using hlt
                obtain ⟨b, off, rfl, hbl, c1, c2, _, _⟩ := (hE0.out wr hB').get k hlt
                cases hx : itemB f.E[k] false
                · have HF := Lib.hid (show checkF c f = 1 by rw [HL.out, all_no f.E k hlt hx]; rfl)
                  have HI := Lib.hid (fun W => ritem_any f.E[k] false W)
                  rw [hx] at HI
                  clear hx
                  generalize f.E[k] = t at *
                  go_wp2_with fail
                  refine (HI.out _).mono ?_
                  rintro e wq ⟨rfl, hb⟩
                  go_wp2
                  go_ret
                  exact ⟨ret_int HF.out.symm, hB'.trans (hb.mono hB'.size)⟩
                · have HS := Lib.hid (all_step f.E k hlt HT.out hx)
                  have HI := Lib.hid (fun W => ritem_any f.E[k] false W)
                  rw [hx] at HI
                  clear hx
                  generalize f.E[k] = t at *
                  go_wp2_with fail
                  refine (HI.out _).mono ?_
                  rintro e wq ⟨rfl, hb⟩
                  clear hQf
                  replace hB' := hB'.trans (hb.mono hB'.size)
                  replace hK' := hK'.later hb
                  clear hb
                  go_wp2
                  go_roundw
                  case rel => exact ⟨k + 1, by omega, by go_num, HS.out, hB', hK'⟩
                  case measure => simp [intOf]; omega
              · have dk : decide (k < f.E.length) = false := by simpa using hlt
                have HF := Lib.hid (show checkF c f = 0 by rw [HL.out, all_end f.E k hlt HT.out]; rfl)
                go_wp2
                go_ret
                exact ⟨ret_int HF.out.symm, hB'⟩
          · have dl : ((f.E.length : Int) != echoI c f.K f.S) = true := by simpa using hl
            have HF := Lib.hid (checkF_l c f HA.out HK.out HQ.out hl)
            clear hl k1 k2 a1 a2 a3 a4
            go_enter Tryd.func52, Tryd.ntmps52
            go_wp2_with fail
            generalize ((w.alloc (.cells #[.int .i64 c.N, .int .i64 c.Pi, .int .i64 c.E, .int .i64 c.G, .int .i64 c.F, .slice ca c.P.length cc] 24)).alloc (.cells #[.int .i64 f.K, .int .i64 f.R, .int .i64 f.S, .int .i64 f.P.K, .int .i64 f.P.V, .slice a f.E.length cap] 29)) = wn at *
            obtain ⟨I, F, i0, h0, hR, hcl⟩ := class_any wn (stable_and (stable_below w) (stable_and (stable_blk w.heap.size 24 (confBox c ca cc)) (stable_and (stable_blk (w.heap.size + 1) 29 (frBox f a cap)) (stable_rowT a f.E)))) ⟨hB, hC, hK, hE⟩
            have K_hB := Lib.hid (fun i => (hR i).1)
            have qhC0 : ∀ i, (F i).cell? ⟨w.heap.size, 0, none⟩ = some (.int .i64 c.N) := fun i => by rw [(hR i).2.1.at]; rfl
            have qhC1 : ∀ i, (F i).cell? ⟨w.heap.size, 1, none⟩ = some (.int .i64 c.Pi) := fun i => by rw [(hR i).2.1.at]; rfl
            have qhC2 : ∀ i, (F i).cell? ⟨w.heap.size, 2, none⟩ = some (.int .i64 c.E) := fun i => by rw [(hR i).2.1.at]; rfl
            have qhC3 : ∀ i, (F i).cell? ⟨w.heap.size, 3, none⟩ = some (.int .i64 c.G) := fun i => by rw [(hR i).2.1.at]; rfl
            have qhC4 : ∀ i, (F i).cell? ⟨w.heap.size, 4, none⟩ = some (.int .i64 c.F) := fun i => by rw [(hR i).2.1.at]; rfl
            have qhC5 : ∀ i, (F i).cell? ⟨w.heap.size, 5, none⟩ = some (.slice ca c.P.length cc) := fun i => by rw [(hR i).2.1.at]; rfl
            have K_hC := Lib.hid (fun i => (hR i).2.1)
            have qhK0 : ∀ i, (F i).cell? ⟨w.heap.size + 1, 0, none⟩ = some (.int .i64 f.K) := fun i => by rw [(hR i).2.2.1.at]; rfl
            have qhK1 : ∀ i, (F i).cell? ⟨w.heap.size + 1, 1, none⟩ = some (.int .i64 f.R) := fun i => by rw [(hR i).2.2.1.at]; rfl
            have qhK2 : ∀ i, (F i).cell? ⟨w.heap.size + 1, 2, none⟩ = some (.int .i64 f.S) := fun i => by rw [(hR i).2.2.1.at]; rfl
            have qhK3 : ∀ i, (F i).cell? ⟨w.heap.size + 1, 3, none⟩ = some (.int .i64 f.P.K) := fun i => by rw [(hR i).2.2.1.at]; rfl
            have qhK4 : ∀ i, (F i).cell? ⟨w.heap.size + 1, 4, none⟩ = some (.int .i64 f.P.V) := fun i => by rw [(hR i).2.2.1.at]; rfl
            have qhK5 : ∀ i, (F i).cell? ⟨w.heap.size + 1, 5, none⟩ = some (.slice a f.E.length cap) := fun i => by rw [(hR i).2.2.1.at]; rfl
            have K_hK := Lib.hid (fun i => (hR i).2.2.1)
            have K_hE := Lib.hid (fun i => (hR i).2.2.2)
            have HR := Lib.hid hR
            have HC := Lib.hid hcl
            have H0 := Lib.hid h0
            clear hR hcl h0
            haveI : Nonempty I := ⟨i0⟩
            refine wp_region_class F i0 H0.out (by kernel_rfl) (by kernel_rfl) ?_
            repeat (go_big_quiet_step ((first | (go_at_call 17; exact class_call HC.out (rslots_any c ca cc _ hc)))))
            refine wpQuiet_nil ?_
            intro _ hw'
            obtain ⟨iq, hw''⟩ := hw'
            subst hw''
            clear hB hC hK hE K_hB qhC0 qhC1 qhC2 qhC3 qhC4 qhC5 K_hC qhK0 qhK1 qhK2 qhK3 qhK4 qhK5 K_hK K_hE HC H0
            obtain ⟨hB, hC, hK, hE⟩ := HR.out iq
            clear HR
            generalize F iq = wn at *
            have hQf := hK.at
            unfold frBox at hQf
            have hQc := hC.at
            unfold confBox at hQc
            go_wp2_with fail
            refine (ritem_any f.P false _).mono ?_
            rintro e wm ⟨rfl, hb⟩
            rw [HP.out]
            clear hQf hQc
            replace hB := hB.trans (hb.mono hB.size)
            replace hC := hC.later hb
            replace hK := hK.later hb
            replace hE := hE.later hb
            clear hb
            have hQf := hK.at
            unfold frBox at hQf
            go_wp2_with fail
            clear hQf
            obtain ⟨I, F, i0, h0, hR, hcl⟩ := class_any wm (stable_and (stable_below w) (stable_and (stable_blk w.heap.size 24 (confBox c ca cc)) (stable_and (stable_blk (w.heap.size + 1) 29 (frBox f a cap)) (stable_rowT a f.E)))) ⟨hB, hC, hK, hE⟩
            have K_hB := Lib.hid (fun i => (hR i).1)
            have qhC0 : ∀ i, (F i).cell? ⟨w.heap.size, 0, none⟩ = some (.int .i64 c.N) := fun i => by rw [(hR i).2.1.at]; rfl
            have qhC1 : ∀ i, (F i).cell? ⟨w.heap.size, 1, none⟩ = some (.int .i64 c.Pi) := fun i => by rw [(hR i).2.1.at]; rfl
            have qhC2 : ∀ i, (F i).cell? ⟨w.heap.size, 2, none⟩ = some (.int .i64 c.E) := fun i => by rw [(hR i).2.1.at]; rfl
            have qhC3 : ∀ i, (F i).cell? ⟨w.heap.size, 3, none⟩ = some (.int .i64 c.G) := fun i => by rw [(hR i).2.1.at]; rfl
            have qhC4 : ∀ i, (F i).cell? ⟨w.heap.size, 4, none⟩ = some (.int .i64 c.F) := fun i => by rw [(hR i).2.1.at]; rfl
            have qhC5 : ∀ i, (F i).cell? ⟨w.heap.size, 5, none⟩ = some (.slice ca c.P.length cc) := fun i => by rw [(hR i).2.1.at]; rfl
            have K_hC := Lib.hid (fun i => (hR i).2.1)
            have qhK0 : ∀ i, (F i).cell? ⟨w.heap.size + 1, 0, none⟩ = some (.int .i64 f.K) := fun i => by rw [(hR i).2.2.1.at]; rfl
            have qhK1 : ∀ i, (F i).cell? ⟨w.heap.size + 1, 1, none⟩ = some (.int .i64 f.R) := fun i => by rw [(hR i).2.2.1.at]; rfl
            have qhK2 : ∀ i, (F i).cell? ⟨w.heap.size + 1, 2, none⟩ = some (.int .i64 f.S) := fun i => by rw [(hR i).2.2.1.at]; rfl
            have qhK3 : ∀ i, (F i).cell? ⟨w.heap.size + 1, 3, none⟩ = some (.int .i64 f.P.K) := fun i => by rw [(hR i).2.2.1.at]; rfl
            have qhK4 : ∀ i, (F i).cell? ⟨w.heap.size + 1, 4, none⟩ = some (.int .i64 f.P.V) := fun i => by rw [(hR i).2.2.1.at]; rfl
            have qhK5 : ∀ i, (F i).cell? ⟨w.heap.size + 1, 5, none⟩ = some (.slice a f.E.length cap) := fun i => by rw [(hR i).2.2.1.at]; rfl
            have K_hK := Lib.hid (fun i => (hR i).2.2.1)
            have K_hE := Lib.hid (fun i => (hR i).2.2.2)
            have HR := Lib.hid hR
            have HC := Lib.hid hcl
            have H0 := Lib.hid h0
            clear hR hcl h0
            haveI : Nonempty I := ⟨i0⟩
            refine wp_region_class F i0 H0.out (by kernel_rfl) (by kernel_rfl) ?_
            repeat (go_big_quiet_step ((first | (go_at_call 51; exact class_call HC.out (rechoes_any c ca cc _ _ _ hc)))))
            refine wpQuiet_nil ?_
            intro _ hw'
            obtain ⟨iq, hw''⟩ := hw'
            subst hw''
            clear hB hC hK hE K_hB qhC0 qhC1 qhC2 qhC3 qhC4 qhC5 K_hC qhK0 qhK1 qhK2 qhK3 qhK4 qhK5 K_hK K_hE HC H0
            obtain ⟨hB, hC, hK, hE⟩ := HR.out iq
            clear HR
            generalize F iq = wm at *
            go_wp2
            go_ret
            exact ⟨ret_int HF.out.symm, hB⟩
        · have e5 : (f.P.K != 0) = true := by simpa using p0
          have HF := Lib.hid (checkF_p c f HA.out HK.out (by unfold badP; rw [HB.out, HP.out, e5, e3]; rfl))
          clear p0 k1 k2 a1 a2 a3 a4
          go_enter Tryd.func52, Tryd.ntmps52
          go_wp2_with fail
          generalize ((w.alloc (.cells #[.int .i64 c.N, .int .i64 c.Pi, .int .i64 c.E, .int .i64 c.G, .int .i64 c.F, .slice ca c.P.length cc] 24)).alloc (.cells #[.int .i64 f.K, .int .i64 f.R, .int .i64 f.S, .int .i64 f.P.K, .int .i64 f.P.V, .slice a f.E.length cap] 29)) = wn at *
          obtain ⟨I, F, i0, h0, hR, hcl⟩ := class_any wn (stable_and (stable_below w) (stable_and (stable_blk w.heap.size 24 (confBox c ca cc)) (stable_and (stable_blk (w.heap.size + 1) 29 (frBox f a cap)) (stable_rowT a f.E)))) ⟨hB, hC, hK, hE⟩
          have K_hB := Lib.hid (fun i => (hR i).1)
          have qhC0 : ∀ i, (F i).cell? ⟨w.heap.size, 0, none⟩ = some (.int .i64 c.N) := fun i => by rw [(hR i).2.1.at]; rfl
          have qhC1 : ∀ i, (F i).cell? ⟨w.heap.size, 1, none⟩ = some (.int .i64 c.Pi) := fun i => by rw [(hR i).2.1.at]; rfl
          have qhC2 : ∀ i, (F i).cell? ⟨w.heap.size, 2, none⟩ = some (.int .i64 c.E) := fun i => by rw [(hR i).2.1.at]; rfl
          have qhC3 : ∀ i, (F i).cell? ⟨w.heap.size, 3, none⟩ = some (.int .i64 c.G) := fun i => by rw [(hR i).2.1.at]; rfl
          have qhC4 : ∀ i, (F i).cell? ⟨w.heap.size, 4, none⟩ = some (.int .i64 c.F) := fun i => by rw [(hR i).2.1.at]; rfl
          have qhC5 : ∀ i, (F i).cell? ⟨w.heap.size, 5, none⟩ = some (.slice ca c.P.length cc) := fun i => by rw [(hR i).2.1.at]; rfl
          have K_hC := Lib.hid (fun i => (hR i).2.1)
          have qhK0 : ∀ i, (F i).cell? ⟨w.heap.size + 1, 0, none⟩ = some (.int .i64 f.K) := fun i => by rw [(hR i).2.2.1.at]; rfl
          have qhK1 : ∀ i, (F i).cell? ⟨w.heap.size + 1, 1, none⟩ = some (.int .i64 f.R) := fun i => by rw [(hR i).2.2.1.at]; rfl
          have qhK2 : ∀ i, (F i).cell? ⟨w.heap.size + 1, 2, none⟩ = some (.int .i64 f.S) := fun i => by rw [(hR i).2.2.1.at]; rfl
          have qhK3 : ∀ i, (F i).cell? ⟨w.heap.size + 1, 3, none⟩ = some (.int .i64 f.P.K) := fun i => by rw [(hR i).2.2.1.at]; rfl
          have qhK4 : ∀ i, (F i).cell? ⟨w.heap.size + 1, 4, none⟩ = some (.int .i64 f.P.V) := fun i => by rw [(hR i).2.2.1.at]; rfl
          have qhK5 : ∀ i, (F i).cell? ⟨w.heap.size + 1, 5, none⟩ = some (.slice a f.E.length cap) := fun i => by rw [(hR i).2.2.1.at]; rfl
          have K_hK := Lib.hid (fun i => (hR i).2.2.1)
          have K_hE := Lib.hid (fun i => (hR i).2.2.2)
          have HR := Lib.hid hR
          have HC := Lib.hid hcl
          have H0 := Lib.hid h0
          clear hR hcl h0
          haveI : Nonempty I := ⟨i0⟩
          refine wp_region_class F i0 H0.out (by kernel_rfl) (by kernel_rfl) ?_
          repeat (go_big_quiet_step ((first | (go_at_call 17; exact class_call HC.out (rslots_any c ca cc _ hc)))))
          refine wpQuiet_nil ?_
          intro _ hw'
          obtain ⟨iq, hw''⟩ := hw'
          subst hw''
          clear hB hC hK hE K_hB qhC0 qhC1 qhC2 qhC3 qhC4 qhC5 K_hC qhK0 qhK1 qhK2 qhK3 qhK4 qhK5 K_hK K_hE HC H0
          obtain ⟨hB, hC, hK, hE⟩ := HR.out iq
          clear HR
          generalize F iq = wn at *
          have hQf := hK.at
          unfold frBox at hQf
          have hQc := hC.at
          unfold confBox at hQc
          go_wp2_with fail
          refine (ritem_any f.P false _).mono ?_
          rintro e wm ⟨rfl, hb⟩
          rw [HP.out]
          clear hQf hQc
          replace hB := hB.trans (hb.mono hB.size)
          replace hC := hC.later hb
          replace hK := hK.later hb
          replace hE := hE.later hb
          clear hb
          have hQf := hK.at
          unfold frBox at hQf
          go_wp2
          go_ret
          exact ⟨ret_int HF.out.symm, hB⟩

end Go.Proofs.YtkflijbhlibadabDoor
/-
  Contracts of plaitingref5, fifth part: numbers and items of bits, frames of texts.
-/
namespace Go.Proofs.YtkflijbhlibadabDoor
open Go.RowKit Plait
set_option maxRecDepth 100000
set_option linter.unusedVariables false

theorem numR_form (l : List UInt8) : ∃ b, numR l = .tuple #[.int .i64 (num0 l), .bool b] := by
  unfold numR num0
  split
  · exact ⟨true, rfl⟩
  · exact ⟨false, rfl⟩

theorem rnumber_any (l : List UInt8) (w : World) (hs : l.length ≤ 1099511627776) :
    Calls Tryd.prog 49 #[.string ⟨l.toArray⟩] w fun e w' => e = .returned (.int .i64 (num0 l)) ∧ w = w' := by
  obtain ⟨b, hb⟩ := numR_form l
  have HR := Lib.hid (fun W => rnum_any l W hs)
  rw [hb] at HR
  clear hb
  generalize num0 l = n at *
  go_enter Tryd.func49, Tryd.ntmps49
  go_wp2_with fail
  refine (HR.out _).mono ?_
  rintro e wl ⟨rfl, rfl⟩
  go_wp2
  go_ret
  exact ⟨rfl, rfl⟩

set_option maxHeartbeats 1600000 in
theorem rread_any (l : List UInt8) (w : World) (h10 : 10 ≤ l.length) (hs : l.length ≤ 1048576) :
    Calls Tryd.prog 50 #[.string ⟨l.toArray⟩] w fun e w' => e = .returned (.agg #[.int .i64 (itOf l).K, .int .i64 (itOf l).V]) ∧ Below w.heap.size w w' := by
  have HA := Lib.hid (fun W => rnumber_any (l.take 2) W (by rw [List.length_take]; omega))
  have HB := Lib.hid (fun W => rnumber_any ((l.drop 2).take 8) W (by rw [List.length_take]; omega))
  have h1 : (2 : Int) ≤ (l.length : Int) := by omega
  have h2 : (10 : Int) ≤ (l.length : Int) := by omega
  have HF := Lib.hid (show itOf l = ⟨num0 (l.take 2), num0 ((l.drop 2).take 8)⟩ from rfl)
  have hB0 : Below w.heap.size w (w.alloc (.cells #[.int .i64 0, .int .i64 0] 26)) := alloc_below _ _
  have hK0 : Blk (w.alloc (.cells #[.int .i64 0, .int .i64 0] 26)) w.heap.size 26 #[.int .i64 0, .int .i64 0] := Blk.new _ _ _
  have hc0 := hK0.at 0
  have hc1 := hK0.at 1
  have hf0 := hK0.frozen 0
  have hf1 := hK0.frozen 1
  go_enter Tryd.func50, Tryd.ntmps50
  go_wp2_with fail
  go_region_held3 (fun W => Below w.heap.size w W) (first | exact hB0.drew | assumption | exact (alloc_below _ _).drew)
    (first
    | (go_at_call 49; refine (rnumber_any _ _ ?_).mono ?_; (simp; omega); rintro e wl ⟨rfl, rfl⟩))
  all_goals go_wp2_with fail
  all_goals
    refine bodyPost_ret (v := .agg #[.int .i64 (num0 (l.take 2)), .int .i64 (num0 ((l.drop 2).take 8))]) (by simp [results, Tryd.results50, go_sem]) rfl ⟨by rw [HF.out], by assumption⟩

end Go.Proofs.YtkflijbhlibadabDoor
