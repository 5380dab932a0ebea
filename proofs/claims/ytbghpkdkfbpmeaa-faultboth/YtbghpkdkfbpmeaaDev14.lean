/-
  Contracts of package frame, sixth part: items and frames out of numbers.
-/
import Derived.Test.YtbghpkdkfbpmeaaDev13
namespace Go.Proofs.Ytbghpkdkfbpmeaa
open Go.RowKit Plait
set_option maxRecDepth 100000
set_option linter.unusedVariables false

/-- The first k items. -/
def itemsK (zs : List Int) (k : Nat) : List It := (List.range k).map fun i => ⟨zs.getD (2 * i) 0, zs.getD (2 * i + 1) 0⟩
theorem itemsK_len (zs : List Int) (k : Nat) : (itemsK zs k).length = k := by simp [itemsK]
theorem itemsK_succ (zs : List Int) (k : Nat) (h : 2 * k + 1 < zs.length) : itemsK zs (k + 1) = itemsK zs k ++ [⟨zs[2 * k], zs[2 * k + 1]⟩] := by
  unfold itemsK
  rw [List.range_succ, List.map_append]
  simp only [List.map_cons, List.map_nil]
  rw [List.getD_eq_getElem?_getD, List.getElem?_eq_getElem (by omega : 2 * k < zs.length), List.getD_eq_getElem?_getD, List.getElem?_eq_getElem h]
  rfl

/-- The loop of itemsOf. -/
def ItemsTo (zs : List Int) (w : World) (v i : Value) (w' : World) : Prop :=
  ∃ k p : Nat, p = 2 * k ∧ p ≤ zs.length ∧ i = .int .i64 p ∧ OwnT w.heap.size w' v (itemsK zs k) ∧ Below w.heap.size w w'

set_option maxHeartbeats 3200000 in
theorem fitemsOf_any (a : Option Addr) (zs : List Int) (cap : Nat) (w : World) (hrow : Row w a zs) (hl : zs.length ≤ 600000) :
    Calls Try.prog 76 #[.slice a zs.length cap] w fun e w' => ∃ v, e = .returned v ∧ OwnT w.heap.size w' v (itemsN zs) ∧ Below w.heap.size w w' := by
  have HF := Lib.hid (show itemsN zs = itemsK zs (zs.length / 2) from rfl)
  go_enter Try.func76, Try.ntmps76
  go_wp2
  go_loopw [3, 4] (fun v i w' => ItemsTo zs w v i w') (fun _ i _ => zs.length - (intOf i).toNat)
  case atStart => exact ⟨0, 0, rfl, Nat.zero_le _, rfl, OwnT.nil _ _, Below.refl _ _⟩
  case round =>
    obtain ⟨k, p, hp, hpl, rfl, hown, hB⟩ := hrel
    have Hp := Lib.hid hp
    clear hp
    by_cases hlt : p + 1 < zs.length
    · have d1 : decide ((p : Int) + 1 < (zs.length : Int)) = true := by simp; omega
      have d2 : decide (p + 1 < zs.length) = true := by simpa using hlt
      obtain ⟨b, off, rfl, hbl, c1, z1, z2⟩ := (hrow.later hB).get p (Nat.lt_of_succ_lt hlt)
      obtain ⟨b', off', he, _, c2, z3, z4⟩ := (hrow.later hB).get (p + 1) hlt
      injection he with he
      injection he with e1 e2
      subst e1 e2
      have HS := Lib.hid (show itemsK zs (k + 1) = itemsK zs k ++ [⟨zs[p], zs[p + 1]⟩] by have hp := Hp.out; subst hp; exact itemsK_succ zs k hlt)
      have hll : (itemsK zs k).length ≤ 300000 := by rw [itemsK_len]; have := Hp.out; omega
      have g0 : (0 : Int) ≤ (p : Int) := by omega
      have g1 : (p : Int) < (zs.length : Int) := by omega
      have g2 : (p : Int) + 1 < (zs.length : Int) := by omega
      have g3 : (0 : Int) ≤ (p : Int) + 1 := by omega
      have z0 : IntKind.i64.wrap ((p : Int) + 1) = (p : Int) + 1 := wrap_in _ (by omega) (by omega)
      generalize zs[p] = x at *
      generalize zs[p + 1] = y at *
      generalize itemsK zs k = TS at *
      obtain ⟨av, cv, rfl⟩ := hown.form
      have hol := hown.lt
      have hsz := hB.size
      go_wp2_with fail
      go_region_law (first
        | (refine step_appT _ (by rfl) (.tmp 12) (.tmp 23) (by rfl) w.heap.size (.slice av TS.length cv) TS (by simp [Act.eval]) (hown.later ((Below.refl _ wr).drew.alloc (Nat.le_refl _) _)) wr.heap.size 1 ⟨x, y⟩ (by simp [Act.eval]) (heap_alloc_new _ _) (by omega) (by simp; omega) ?_; intro g' cap' w2 h1' h2' h3' h4'))
      all_goals
        go_wp2
        go_roundw
        case rel =>
          refine ⟨k + 1, p + 2, by have := Hp.out; omega, by omega, by go_num, by rw [HS.out]; exact h1', ?_⟩
          exact below_grown (hB.drew.alloc hB.size _) (by simp; omega) h2' (fun g e => (hol g e).1)
        case measure => simp [intOf]; omega
    · have d1 : decide ((p : Int) + 1 < (zs.length : Int)) = false := by simp; omega
      have d2 : decide (p + 1 < zs.length) = false := by simpa using hlt
      obtain rfl : k = zs.length / 2 := by have := Hp.out; omega
      rw [← HF.out] at hown
      obtain ⟨av, cv, rfl⟩ := hown.form
      go_wp2
      go_ret
      exact ⟨_, rfl, hown, hB⟩

end Go.Proofs.Ytbghpkdkfbpmeaa
