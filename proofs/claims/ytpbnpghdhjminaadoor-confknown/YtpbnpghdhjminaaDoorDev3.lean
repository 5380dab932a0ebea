/-
  Contracts of package conf, first part: numbers of a network, who is a node, whose pair slot it is, a slot's owners; nothing that was in memory is changed.
-/
import Derived.Test.YtpbnpghdhjminaaDoorConf2
namespace Go.Proofs.YtpbnpghdhjminaaDoor
open Go.RowKit Plait
set_option linter.unusedVariables false

theorem cisNode_any (c : Cf) (a : Option Addr) (cap : Nat) (s : Int) (w : World) :
    Calls Tryd.prog 32 #[.agg #[.int .i64 c.N, .int .i64 c.Pi, .int .i64 c.E, .int .i64 c.G, .int .i64 c.F, .slice a c.P.length cap], .int .i64 s] w fun e w' => e = .returned (.bool (nodeB c s)) ∧ Below w.heap.size w w' := by
  have HF := Lib.hid (show (decide (0 ≤ s) && decide (s < c.N)) = nodeB c s from rfl)
  by_cases h : 0 ≤ s
  · go_enter Tryd.func32, Tryd.ntmps32
    go_wp2
    go_ret
    exact ⟨ret_bool (by rw [← HF.out]; simp [h]), (Below.refl _ _).alloc (Nat.le_refl _) _⟩
  · have hd : decide (0 ≤ s) = false := by simpa using h
    go_enter Tryd.func32, Tryd.ntmps32
    go_wp2
    go_ret
    exact ⟨ret_bool (by rw [← HF.out]; simp [hd]), (Below.refl _ _).alloc (Nat.le_refl _) _⟩

theorem cslots_any (c : Cf) (a : Option Addr) (cap : Nat) (w : World) (hc : c.Ok) :
    Calls Tryd.prog 14 #[.agg #[.int .i64 c.N, .int .i64 c.Pi, .int .i64 c.E, .int .i64 c.G, .int .i64 c.F, .slice a c.P.length cap]] w fun e w' => e = .returned (.int .i64 (slotsI c)) ∧ Below w.heap.size w w' := by
  have h1 := hc.n6; have h2 := hc.n12; have h3 := hc.len
  go_enter Tryd.func14, Tryd.ntmps14
  go_wp2
  go_ret
  exact ⟨rfl, (Below.refl _ _).alloc (Nat.le_refl _) _⟩

theorem cmost_any (c : Cf) (a : Option Addr) (cap : Nat) (w : World) (h1 : 0 ≤ c.N) (h2 : c.N ≤ 12) :
    Calls Tryd.prog 21 #[.agg #[.int .i64 c.N, .int .i64 c.Pi, .int .i64 c.E, .int .i64 c.G, .int .i64 c.F, .slice a c.P.length cap]] w fun e w' => e = .returned (.int .i64 (mostI c)) ∧ Below w.heap.size w w' := by
  go_enter Tryd.func21, Tryd.ntmps21
  go_wp2
  go_ret
  exact ⟨rfl, (Below.refl _ _).alloc (Nat.le_refl _) _⟩

theorem cwindow_any (c : Cf) (a : Option Addr) (cap : Nat) (w : World) (hc : c.Ok) :
    Calls Tryd.prog 23 #[.agg #[.int .i64 c.N, .int .i64 c.Pi, .int .i64 c.E, .int .i64 c.G, .int .i64 c.F, .slice a c.P.length cap]] w fun e w' => e = .returned (.int .i64 (windowI c)) ∧ Below w.heap.size w w' := by
  have h1 := hc.p0; have h2 := hc.p1; have h3 := hc.e0; have h4 := hc.g0
  go_enter Tryd.func23, Tryd.ntmps23
  go_wp2
  go_ret
  exact ⟨rfl, (Below.refl _ _).alloc (Nat.le_refl _) _⟩

theorem climit_any (c : Cf) (a : Option Addr) (cap : Nat) (w : World) (hc : c.Ok) :
    Calls Tryd.prog 25 #[.agg #[.int .i64 c.N, .int .i64 c.Pi, .int .i64 c.E, .int .i64 c.G, .int .i64 c.F, .slice a c.P.length cap]] w fun e w' => e = .returned (.int .i64 (limitI c)) ∧ Below w.heap.size w w' := by
  have h1 := hc.n6; have h2 := hc.n12
  go_enter Tryd.func25, Tryd.ntmps25
  go_wp2
  go_ret
  exact ⟨rfl, (Below.refl _ _).alloc (Nat.le_refl _) _⟩

theorem cwire_any (c : Cf) (a : Option Addr) (cap : Nat) (r : Int) (w : World) (hc : c.Ok) (hr : 0 ≤ r) (hr2 : r ≤ 1099511627776) :
    Calls Tryd.prog 27 #[.agg #[.int .i64 c.N, .int .i64 c.Pi, .int .i64 c.E, .int .i64 c.G, .int .i64 c.F, .slice a c.P.length cap], .int .i64 r] w fun e w' => e = .returned (.int .i64 (wireI c r)) ∧ Below w.heap.size w w' := by
  have h1 := hc.f0; have h2 := hc.f1
  have hd : IntKind.u16.wrap (c.F + r) = (c.F + r) % 65536 := by simp [IntKind.wrap, IntKind.signed, IntKind.bits]
  have HF := Lib.hid (show (c.F + r) % 65536 = wireI c r from rfl)
  go_enter Tryd.func27, Tryd.ntmps27
  go_wp2
  go_ret
  exact ⟨ret_int (by rw [← HF.out]), (Below.refl _ _).alloc (Nat.le_refl _) _⟩

/-- The loop of pairOf: none of the pairs ahead of k has the slot. -/
def PairAt (c : Cf) (s : Int) (i : Value) : Prop := ∃ k : Nat, k ≤ c.P.length ∧ i = .int .i64 k ∧ ∀ j : Nat, j < k → s ≠ c.N + j

set_option maxHeartbeats 800000 in
theorem cpairOf_any (c : Cf) (a : Option Addr) (cap : Nat) (s : Int) (w : World) (hc : c.Ok) (hrow : Row w a c.P) :
    Calls Tryd.prog 33 #[.agg #[.int .i64 c.N, .int .i64 c.Pi, .int .i64 c.E, .int .i64 c.G, .int .i64 c.F, .slice a c.P.length cap], .int .i64 s] w fun e w' => e = .returned (.int .i64 (pairAt c s)) ∧ Below w.heap.size w w' := by
  have h1 := hc.n6; have h2 := hc.n12; have h3 := hc.len
  go_enter Tryd.func33, Tryd.ntmps33
  go_wp2
  go_loop [10] (fun i => PairAt c s i) (fun i => c.P.length - (intOf i).toNat)
  case atStart => exact ⟨0, Nat.zero_le _, rfl, fun j hj => absurd hj (by omega)⟩
  case round =>
    obtain ⟨k, hk, rfl, hno⟩ := hrel
    have HN := Lib.hid hno
    clear hno
    by_cases hlt : k < c.P.length
    · obtain ⟨b, off, rfl, hb, hcell, _, _⟩ := hrow.get k hlt
      have hcell' : ∀ o, (w.alloc o).cell? ⟨b, off + k, none⟩ = some (.int .i64 c.P[k]) := fun o => by rw [World.cell?_alloc_lt w o _ hb]; exact hcell
      have d1 : decide (k < c.P.length) = true := by simpa using hlt
      by_cases hs : s = c.N + k
      · have hq : (s == c.N + (k : Int)) = true := by simp [hs]
        have HF := Lib.hid (show c.P[k] = pairAt c s by rw [hs, pairAt_in c k hlt])
        clear hs
        go_wp2
        go_ret
        exact ⟨ret_int HF.out, (Below.refl _ _).alloc (Nat.le_refl _) _⟩
      · have hq : (s == c.N + (k : Int)) = false := by simp [hs]
        go_wp2
        go_round
        case rel =>
          refine ⟨k + 1, by omega, by go_num, fun j hj => ?_⟩
          by_cases e : j = k
          · rw [e]; exact hs
          · exact HN.out j (by omega)
        case measure => simp [intOf]; omega
    · have d1 : decide (k < c.P.length) = false := by simpa using hlt
      have HF := Lib.hid (pairAt_out c s (fun j hj => HN.out j (by omega)))
      go_wp2
      go_ret
      exact ⟨ret_int HF.out.symm, (Below.refl _ _).alloc (Nat.le_refl _) _⟩

set_option maxHeartbeats 800000 in
theorem cowners_any (c : Cf) (a : Option Addr) (cap : Nat) (s : Int) (w : World) (hc : c.Ok) (hs : inI s) (hrow : Row w a c.P) :
    Calls Tryd.prog 16 #[.agg #[.int .i64 c.N, .int .i64 c.Pi, .int .i64 c.E, .int .i64 c.G, .int .i64 c.F, .slice a c.P.length cap], .int .i64 s] w (RowRet (owners c s) w) := by
  have h1 := hc.n6; have h2 := hc.n12; have h3 := hc.len
  cases hn : nodeB c s
  · have HN := Lib.hid hn
    cases hp : nodeB c (pairAt c s)
    · have HF := Lib.hid (owners_none c s hn hp)
      have HP := Lib.hid hp
      clear hn hp
      go_enter Tryd.func16, Tryd.ntmps16
      go_wp2_with fail
      refine (cisNode_any c a cap s _).mono ?_
      rintro e wn ⟨rfl, hb⟩
      obtain ⟨hB, hK, hZ⟩ := boxed hb
      have hQ := hK.at
      clear hb
      rw [HN.out]
      go_wp2_with fail
      refine (cpairOf_any c a cap s _ hc (hrow.later hB)).mono ?_
      rintro e wn ⟨rfl, hb⟩
      clear hQ
      obtain ⟨hB, hK, hZ⟩ := boxed_on hB hK hb
      have hQ := hK.at
      clear hb
      go_wp2_with fail
      refine (cisNode_any c a cap _ _).mono ?_
      rintro e wn ⟨rfl, hb⟩
      clear hQ
      obtain ⟨hB, hK, hZ⟩ := boxed_on hB hK hb
      have hQ := hK.at
      clear hb
      rw [HP.out]
      go_wp2
      go_ret
      exact ⟨none, 0, by rw [HF.out]; rfl, by rw [HF.out]; exact Row.empty _ _, (fun x h => by cases h), hB⟩
    · have hpb := (nodeB_iff c _).1 hp
      have HF := Lib.hid (owners_pair c s hn hp)
      have HP := Lib.hid hp
      clear hn hp
      go_enter Tryd.func16, Tryd.ntmps16
      go_wp2_with fail
      refine (cisNode_any c a cap s _).mono ?_
      rintro e wn ⟨rfl, hb⟩
      obtain ⟨hB, hK, hZ⟩ := boxed hb
      have hQ := hK.at
      clear hb
      rw [HN.out]
      go_wp2_with fail
      refine (cpairOf_any c a cap s _ hc (hrow.later hB)).mono ?_
      rintro e wn ⟨rfl, hb⟩
      clear hQ
      obtain ⟨hB, hK, hZ⟩ := boxed_on hB hK hb
      have hQ := hK.at
      clear hb
      go_wp2_with fail
      refine (cisNode_any c a cap _ _).mono ?_
      rintro e wn ⟨rfl, hb⟩
      clear hQ
      obtain ⟨hB, hK, hZ⟩ := boxed_on hB hK hb
      have hQ := hK.at
      clear hb
      rw [HP.out]
      generalize pairAt c s = p at *
      have m1 : 0 ≤ (p + 1) % c.N := Int.emod_nonneg _ (by omega)
      have m2 : (p + 1) % c.N < c.N := Int.emod_lt_of_pos _ (by omega)
      go_wp2
      go_ret
      refine ⟨_, _, by rw [HF.out]; rfl, ?_, (fun x h => by injection h with h; rw [← h]; exact Nat.le_of_lt hZ), hB.alloc hB.size _⟩
      rw [HF.out]
      exact Row.made wn [p, (p + 1) % c.N] _ (by simp) (by simp; omega)
  · have HF := Lib.hid (owners_node c s hn)
    have HN := Lib.hid hn
    clear hn
    go_enter Tryd.func16, Tryd.ntmps16
    go_wp2_with fail
    refine (cisNode_any c a cap s _).mono ?_
    rintro e wn ⟨rfl, hb⟩
    obtain ⟨hB, hK, hZ⟩ := boxed hb
    have hQ := hK.at
    clear hb
    rw [HN.out]
    go_wp2
    go_ret
    refine ⟨_, _, by rw [HF.out]; rfl, ?_, (fun x h => by injection h with h; rw [← h]; exact Nat.le_of_lt hZ), hB.alloc hB.size _⟩
    rw [HF.out]
    exact Row.made wn [s] _ (by simp) (by simp; exact hs)

end Go.Proofs.YtpbnpghdhjminaaDoor
