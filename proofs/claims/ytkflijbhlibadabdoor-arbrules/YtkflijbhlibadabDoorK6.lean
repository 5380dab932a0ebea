/-
  Contracts of package frame, first part: whether a frame may be; nothing that was in memory is changed.
-/
import Derived.Test.YtkflijbhlibadabDoorK5
import Derived.Test.YtkflijbhlibadabDoorK1
import Derived.Deep.AppendLies
import Derived.Test.YtkflijbhlibadabDoorK2
import Derived.Lib.OthersKept
namespace Go.Proofs.YtkflijbhlibadabDoor
open Go.RowKit Plait
set_option maxRecDepth 100000
set_option linter.unusedVariables false

theorem fisOwn_any (c : Cf) (ca : Option Addr) (cc : Nat) (s : Int) (w : World) :
    Calls Tryd.prog 64 #[.agg #[.int .i64 c.N, .int .i64 c.Pi, .int .i64 c.E, .int .i64 c.G, .int .i64 c.F, .slice ca c.P.length cc], .int .i64 s] w fun e w' => e = .returned (.bool (decide (s < c.N))) ∧ Below w.heap.size w w' := by
  go_enter Tryd.func64, Tryd.ntmps64
  go_wp2
  go_ret
  exact ⟨rfl, alloc_below _ _⟩

theorem froundHolds_any (r : Int) (w : World) :
    Calls Tryd.prog 67 #[.int .i64 r] w fun e w' => e = .returned (.bool (decide (0 ≤ r) && decide (r ≤ 65535))) ∧ w = w' := by
  cases h : decide (0 ≤ r)
  · go_enter Tryd.func67, Tryd.ntmps67
    go_wp2
    go_ret
    exact ⟨rfl, rfl⟩
  · go_enter Tryd.func67, Tryd.ntmps67
    go_wp2
    go_ret
    exact ⟨ret_bool (by simp), rfl⟩

theorem fslotHolds_any (c : Cf) (ca : Option Addr) (cc : Nat) (s : Int) (w : World) (hc : c.Ok) :
    Calls Tryd.prog 66 #[.agg #[.int .i64 c.N, .int .i64 c.Pi, .int .i64 c.E, .int .i64 c.G, .int .i64 c.F, .slice ca c.P.length cc], .int .i64 s] w fun e w' => e = .returned (.bool (decide (0 ≤ s) && decide (s < slotsI c))) ∧ Below w.heap.size w w' := by
  cases h : decide (0 ≤ s)
  · go_enter Tryd.func66, Tryd.ntmps66
    go_wp2
    go_ret
    exact ⟨rfl, alloc_below _ _⟩
  · go_enter Tryd.func66, Tryd.ntmps66
    go_wp2_with fail
    refine (cslots_any c ca cc _ hc).mono ?_
    rintro e wn ⟨rfl, hb⟩
    obtain ⟨hB, hK, hZ⟩ := boxed hb
    have hQ := hK.at
    clear hb
    go_wp2
    go_ret
    exact ⟨ret_bool (by simp), hB⟩

set_option maxHeartbeats 800000 in
theorem fisNoItem_any (i : It) (w : World) :
    Calls Tryd.prog 71 #[.agg #[.int .i64 i.K, .int .i64 i.V]] w fun e w' => e = .returned (.bool (!itemB i false)) ∧ Below w.heap.size w w' := by
  by_cases k0 : i.K = 0
  · have HF := Lib.hid (show (!itemB i false) = (i.V != 0) by unfold itemB; rw [if_pos k0]; simp [bne])
    have c0 : (i.K == 0) = true := by simpa using k0
    clear k0
    go_enter Tryd.func71, Tryd.ntmps71
    go_wp2
    go_ret
    exact ⟨ret_bool HF.out.symm, alloc_below _ _⟩
  · have c0 : (i.K == 0) = false := by simpa using k0
    by_cases k1 : i.K = 1
    · have HF := Lib.hid (show (!itemB i false) = (i.V != 0) by unfold itemB; rw [if_neg k0, if_pos k1]; simp [bne])
      have c1 : (i.K == 1) = true := by simpa using k1
      clear k0 k1
      go_enter Tryd.func71, Tryd.ntmps71
      go_wp2
      go_ret
      exact ⟨ret_bool HF.out.symm, alloc_below _ _⟩
    · have c1 : (i.K == 1) = false := by simpa using k1
      by_cases k2 : i.K = 2
      · have HF := Lib.hid (show (!itemB i false) = (decide (i.V < 0) || decide (255 < i.V)) by
          unfold itemB
          rw [if_neg k0, if_neg k1, if_pos k2]
          by_cases h1 : i.V < 0
          · simp [h1]
          · by_cases h2 : 255 < i.V
            · simp [h1, h2]
            · simp [h1, h2]; omega)
        have c2 : (i.K == 2) = true := by simpa using k2
        clear k0 k1 k2
        cases hv : decide (i.V < 0)
        · rw [hv] at HF
          go_enter Tryd.func71, Tryd.ntmps71
          go_wp2
          go_ret
          exact ⟨ret_bool (by rw [HF.out]; simp), alloc_below _ _⟩
        · rw [hv] at HF
          go_enter Tryd.func71, Tryd.ntmps71
          go_wp2
          go_ret
          exact ⟨ret_bool (by rw [HF.out]; rfl), alloc_below _ _⟩
      · have HF := Lib.hid (show (!itemB i false) = true by unfold itemB; rw [if_neg k0, if_neg k1, if_neg k2]; rfl)
        have c2 : (i.K == 2) = false := by simpa using k2
        clear k0 k1 k2
        go_enter Tryd.func71, Tryd.ntmps71
        go_wp2
        go_ret
        exact ⟨ret_bool HF.out.symm, alloc_below _ _⟩

set_option maxHeartbeats 800000 in
theorem fkindHolds_any (c : Cf) (ca : Option Addr) (cc : Nat) (f : Fr) (a : Option Addr) (cap : Nat) (w : World) :
    Calls Tryd.prog 68 #[.agg #[.int .i64 c.N, .int .i64 c.Pi, .int .i64 c.E, .int .i64 c.G, .int .i64 c.F, .slice ca c.P.length cc], .agg #[.int .i64 f.K, .int .i64 f.R, .int .i64 f.S, .int .i64 f.P.K, .int .i64 f.P.V, .slice a f.E.length cap]] w fun e w' => e = .returned (.bool (!badK c f)) ∧ Below w.heap.size w w' := by
  have hB : Below w.heap.size w ((w.alloc (.cells #[.int .i64 c.N, .int .i64 c.Pi, .int .i64 c.E, .int .i64 c.G, .int .i64 c.F, .slice ca c.P.length cc] 24)).alloc (.cells #[.int .i64 f.K, .int .i64 f.R, .int .i64 f.S, .int .i64 f.P.K, .int .i64 f.P.V, .slice a f.E.length cap] 29)) := (alloc_below w _).alloc (by simp) _
  have own : f.K = 1 ∨ f.K = 2 → (!badK c f) = decide (f.S < c.N) := fun h => by
    unfold badK
    by_cases hs : f.S < c.N
    · have : ¬ c.N ≤ f.S := by omega
      rcases h with h | h <;> simp [h, hs]
    · have : c.N ≤ f.S := by omega
      rcases h with h | h <;> simp [h, hs, this]
  by_cases k1 : f.K = 1
  · have HF := Lib.hid (own (.inl k1))
    have c1 : (f.K == 1) = true := by simpa using k1
    clear k1 own
    go_enter Tryd.func68, Tryd.ntmps68
    go_wp2_with fail
    refine (fisOwn_any c ca cc f.S _).mono ?_
    rintro e wn ⟨rfl, hb⟩
    go_wp2
    go_ret
    exact ⟨ret_bool HF.out.symm, hB.trans (hb.mono hB.size)⟩
  · have c1 : (f.K == 1) = false := by simpa using k1
    by_cases k2 : f.K = 2
    · have HF := Lib.hid (own (.inr k2))
      have c2 : (f.K == 2) = true := by simpa using k2
      clear k1 k2 own
      go_enter Tryd.func68, Tryd.ntmps68
      go_wp2_with fail
      refine (fisOwn_any c ca cc f.S _).mono ?_
      rintro e wn ⟨rfl, hb⟩
      go_wp2
      go_ret
      exact ⟨ret_bool HF.out.symm, hB.trans (hb.mono hB.size)⟩
    · have c2 : (f.K == 2) = false := by simpa using k2
      by_cases k3 : f.K = 3
      · have HF := Lib.hid (show (!badK c f) = true by unfold badK; simp [k3])
        have c3 : (f.K == 3) = true := by simpa using k3
        clear k1 k2 k3 own
        go_enter Tryd.func68, Tryd.ntmps68
        go_wp2
        go_ret
        exact ⟨ret_bool HF.out.symm, hB⟩
      · have HF := Lib.hid (show (!badK c f) = false by
          unfold badK
          by_cases h1 : f.K < 1
          · simp [h1]
          · have : 3 < f.K := by omega
            simp [h1, this])
        have c3 : (f.K == 3) = false := by simpa using k3
        clear k1 k2 k3 own
        go_enter Tryd.func68, Tryd.ntmps68
        go_wp2
        go_ret
        exact ⟨ret_bool HF.out.symm, hB⟩

theorem pay_spec (f : Fr) : (!badP f) = (!(!itemB f.P false) && ((f.P.K != 0) == (f.K == 3))) := by
  unfold badP
  cases hK : (f.K == 3)
  · have : (f.K != 3) = true := by rw [bne, hK]; rfl
    rw [this]
    cases itemB f.P false <;> cases h0 : (f.P.K != 0) <;> rfl
  · have : (f.K != 3) = false := by rw [bne, hK]; rfl
    rw [this]
    unfold itemB
    by_cases k0 : f.P.K = 0
    · simp [k0]
    · simp [k0]

set_option maxHeartbeats 800000 in
theorem fpayHolds_any (f : Fr) (a : Option Addr) (cap : Nat) (w : World) :
    Calls Tryd.prog 69 #[.agg #[.int .i64 f.K, .int .i64 f.R, .int .i64 f.S, .int .i64 f.P.K, .int .i64 f.P.V, .slice a f.E.length cap]] w fun e w' => e = .returned (.bool (!badP f)) ∧ Below w.heap.size w w' := by
  have HF := Lib.hid (pay_spec f)
  have HC := Lib.hid (fun W => fisNoItem_any f.P W)
  cases hi : itemB f.P false
  · rw [hi] at HF HC
    go_enter Tryd.func69, Tryd.ntmps69
    go_wp2_with fail
    refine (HC.out _).mono ?_
    rintro e wn ⟨rfl, hb⟩
    obtain ⟨hB, hK, hZ⟩ := boxed hb
    have hQ := hK.at
    clear hb
    go_wp2
    go_ret
    exact ⟨ret_bool (by rw [HF.out]; rfl), hB⟩
  · rw [hi] at HF HC
    go_enter Tryd.func69, Tryd.ntmps69
    go_wp2_with fail
    refine (HC.out _).mono ?_
    rintro e wn ⟨rfl, hb⟩
    obtain ⟨hB, hK, hZ⟩ := boxed hb
    have hQ := hK.at
    clear hb
    go_wp2
    go_ret
    exact ⟨ret_bool (by rw [HF.out]; simp), hB⟩

set_option maxHeartbeats 800000 in
theorem fechoes_any (c : Cf) (ca : Option Addr) (cc : Nat) (f : Fr) (a : Option Addr) (cap : Nat) (w : World) (hc : c.Ok) :
    Calls Tryd.prog 46 #[.agg #[.int .i64 c.N, .int .i64 c.Pi, .int .i64 c.E, .int .i64 c.G, .int .i64 c.F, .slice ca c.P.length cc], .agg #[.int .i64 f.K, .int .i64 f.R, .int .i64 f.S, .int .i64 f.P.K, .int .i64 f.P.V, .slice a f.E.length cap]] w fun e w' => e = .returned (.int .i64 (echoI c f.K f.S)) ∧ Below w.heap.size w w' := by
  have hB : Below w.heap.size w ((w.alloc (.cells #[.int .i64 c.N, .int .i64 c.Pi, .int .i64 c.E, .int .i64 c.G, .int .i64 c.F, .slice ca c.P.length cc] 24)).alloc (.cells #[.int .i64 f.K, .int .i64 f.R, .int .i64 f.S, .int .i64 f.P.K, .int .i64 f.P.V, .slice a f.E.length cap] 29)) := (alloc_below w _).alloc (by simp) _
  have hC : Blk ((w.alloc (.cells #[.int .i64 c.N, .int .i64 c.Pi, .int .i64 c.E, .int .i64 c.G, .int .i64 c.F, .slice ca c.P.length cc] 24)).alloc (.cells #[.int .i64 f.K, .int .i64 f.R, .int .i64 f.S, .int .i64 f.P.K, .int .i64 f.P.V, .slice a f.E.length cap] 29)) w.heap.size 24 (confBox c ca cc) := (Blk.new w _ _).alloc _
  by_cases h3 : f.K = 3
  · have c3 : (f.K == 3) = true := by simpa using h3
    by_cases hs : f.S < c.N
    · have HF := Lib.hid (show echoI c f.K f.S = slotsI c by unfold echoI; rw [if_pos ⟨h3, hs⟩])
      have d1 : decide (f.S < c.N) = true := by simpa using hs
      clear h3 hs
      go_enter Tryd.func46, Tryd.ntmps46
      go_wp2_with fail
      refine (fisOwn_any c ca cc f.S _).mono ?_
      rintro e wn ⟨rfl, hb⟩
      rw [d1]
      replace hB := hB.trans (hb.mono hB.size)
      replace hC := hC.later hb
      have hQ := hC.at
      unfold confBox at hQ
      clear hb
      go_wp2_with fail
      refine (cslots_any c ca cc _ hc).mono ?_
      rintro e wm ⟨rfl, hb⟩
      go_wp2
      go_ret
      exact ⟨ret_int HF.out.symm, hB.trans (hb.mono hB.size)⟩
    · have HF := Lib.hid (show echoI c f.K f.S = 0 by unfold echoI; rw [if_neg (by simp [hs])])
      have d1 : decide (f.S < c.N) = false := by simpa using hs
      clear h3 hs
      go_enter Tryd.func46, Tryd.ntmps46
      go_wp2_with fail
      refine (fisOwn_any c ca cc f.S _).mono ?_
      rintro e wn ⟨rfl, hb⟩
      rw [d1]
      go_wp2
      go_ret
      exact ⟨ret_int HF.out.symm, hB.trans (hb.mono hB.size)⟩
  · have HF := Lib.hid (show echoI c f.K f.S = 0 by unfold echoI; rw [if_neg (by simp [h3])])
    have c3 : (f.K == 3) = false := by simpa using h3
    clear h3
    go_enter Tryd.func46, Tryd.ntmps46
    go_wp2
    go_ret
    exact ⟨ret_int HF.out.symm, hB⟩

/-- The first item that is none. -/
theorem no_take (E : List It) (k : Nat) (h : k < E.length) (ha : ∀ i ∈ E.take k, itemB i false = true) (e : itemB E[k] false = true) : ∀ i ∈ E.take (k + 1), itemB i false = true := by
  rw [List.take_succ_eq_append_getElem h]
  intro i hi
  rcases List.mem_append.1 hi with h | h
  · exact ha i h
  · simp at h; rw [h]; exact e

set_option maxHeartbeats 800000 in
theorem fcontains_any (a : Option Addr) (E : List It) (cap : Nat) (w : World) (hE : RowT w a E) :
    Calls Tryd.prog 70 #[.slice a E.length cap, .func (.func 71) #[] #[]] w fun e w' => e = .returned (.bool (!E.all (itemB · false))) ∧ Below w.heap.size w w' := by
  have HI := Lib.hid (show Calls Tryd.prog 80 #[.slice a E.length cap, .func (.func 71) #[] #[]] w fun e w' => (∃ r : Int, e = .returned (.int .i64 r) ∧ decide (0 ≤ r) = !E.all (itemB · false)) ∧ Below w.heap.size w w' from by
    have hlen := hE.1
    go_enter Tryd.func80, Tryd.ntmps80
    go_wp2
    go_loopw [5, 8] (fun _ i w' => ∃ k : Nat, k ≤ E.length ∧ i = .int .i64 k ∧ (E.take k).all (itemB · false) = true ∧ Below w.heap.size w w') (fun _ i _ => E.length - (intOf i).toNat)
    case atStart => exact ⟨0, Nat.zero_le _, rfl, by simp, Below.refl _ _⟩
    case round =>
      obtain ⟨k, hk, rfl, hno, hB⟩ := hrel
      have HN := Lib.hid hno
      clear hno
      by_cases hlt : k < E.length
      · have d1 : decide (k < E.length) = true := by simpa using hlt
        obtain ⟨b, off, rfl, hbl, c1, c2, _, _⟩ := (hE.later hB).get k hlt
        have HC := Lib.hid (fun W => fisNoItem_any E[k] W)
        cases hx : itemB E[k] false
        · have HF := Lib.hid (all_no E k hlt hx)
          rw [hx] at HC
          clear hx
          generalize E[k] = t at *
          go_wp2_with fail
          refine (HC.out _).mono ?_
          rintro e wn ⟨rfl, hb⟩
          go_wp2
          go_ret
          exact ⟨⟨_, rfl, by rw [HF.out]; simp⟩, hB.trans (hb.mono hB.size)⟩
        · have HS := Lib.hid (all_step E k hlt HN.out hx)
          rw [hx] at HC
          clear hx
          generalize E[k] = t at *
          go_wp2_with fail
          refine (HC.out _).mono ?_
          rintro e wn ⟨rfl, hb⟩
          go_wp2
          go_roundw
          case rel => exact ⟨k + 1, by omega, by go_num, HS.out, hB.trans (hb.mono hB.size)⟩
          case measure => simp [intOf]; omega
      · have d1 : decide (k < E.length) = false := by simpa using hlt
        have HF := Lib.hid (all_end E k hlt HN.out)
        go_wp2
        go_ret
        exact ⟨⟨_, rfl, by rw [HF.out]; rfl⟩, hB⟩)
  go_enter Tryd.func70, Tryd.ntmps70
  go_wp2_with fail
  refine HI.out.mono ?_
  rintro e wn ⟨⟨r, rfl, hr⟩, hb⟩
  have HR := Lib.hid hr
  clear hr
  go_wp2
  go_ret
  exact ⟨ret_bool HR.out, hb⟩

end Go.Proofs.YtkflijbhlibadabDoor
/-
  Contracts of package frame, second part: Check.
-/
namespace Go.Proofs.YtkflijbhlibadabDoor
open Go.RowKit Plait
set_option maxRecDepth 100000
set_option linter.unusedVariables false

theorem badA_spec (c : Cf) (f : Fr) : badA c f = (!(decide (0 ≤ f.S) && decide (f.S < slotsI c)) || !(decide (0 ≤ f.R) && decide (f.R ≤ 65535))) := by
  unfold badA
  rw [show decide (f.S < 0) = !decide (0 ≤ f.S) by rw [← decide_not]; congr 1; exact propext ⟨by omega, by omega⟩, show decide (slotsI c ≤ f.S) = !decide (f.S < slotsI c) by rw [← decide_not]; congr 1; exact propext ⟨by omega, by omega⟩,
    show decide (f.R < 0) = !decide (0 ≤ f.R) by rw [← decide_not]; congr 1; exact propext ⟨by omega, by omega⟩, show decide (65536 ≤ f.R) = !decide (f.R ≤ 65535) by rw [← decide_not]; congr 1; exact propext ⟨by omega, by omega⟩]
  cases decide (0 ≤ f.S) <;> cases decide (f.S < slotsI c) <;> cases decide (0 ≤ f.R) <;> cases decide (f.R ≤ 65535) <;> rfl

set_option maxHeartbeats 3200000 in
theorem fCheck_any (c : Cf) (ca : Option Addr) (cc : Nat) (f : Fr) (a : Option Addr) (cap : Nat) (w : World) (hc : c.Ok) (hE : RowT w a f.E) :
    Calls Tryd.prog 47 #[.agg #[.int .i64 c.N, .int .i64 c.Pi, .int .i64 c.E, .int .i64 c.G, .int .i64 c.F, .slice ca c.P.length cc], .agg #[.int .i64 f.K, .int .i64 f.R, .int .i64 f.S, .int .i64 f.P.K, .int .i64 f.P.V, .slice a f.E.length cap]] w fun e w' => e = .returned (.int .i64 (checkF c f)) ∧ Below w.heap.size w w' := by
  have hB : Below w.heap.size w ((w.alloc (.cells #[.int .i64 c.N, .int .i64 c.Pi, .int .i64 c.E, .int .i64 c.G, .int .i64 c.F, .slice ca c.P.length cc] 24)).alloc (.cells #[.int .i64 f.K, .int .i64 f.R, .int .i64 f.S, .int .i64 f.P.K, .int .i64 f.P.V, .slice a f.E.length cap] 29)) := (alloc_below w _).alloc (by simp) _
  have hC : Blk ((w.alloc (.cells #[.int .i64 c.N, .int .i64 c.Pi, .int .i64 c.E, .int .i64 c.G, .int .i64 c.F, .slice ca c.P.length cc] 24)).alloc (.cells #[.int .i64 f.K, .int .i64 f.R, .int .i64 f.S, .int .i64 f.P.K, .int .i64 f.P.V, .slice a f.E.length cap] 29)) w.heap.size 24 (confBox c ca cc) := (Blk.new w _ _).alloc _
  have hK : Blk ((w.alloc (.cells #[.int .i64 c.N, .int .i64 c.Pi, .int .i64 c.E, .int .i64 c.G, .int .i64 c.F, .slice ca c.P.length cc] 24)).alloc (.cells #[.int .i64 f.K, .int .i64 f.R, .int .i64 f.S, .int .i64 f.P.K, .int .i64 f.P.V, .slice a f.E.length cap] 29)) (w.heap.size + 1) 29 (frBox f a cap) := Blk.newAt _ _ (by simp)
  have hlen := hE.1
  replace hE := hE.later hB
  have HA := Lib.hid (badA_spec c f)
  have HSl := Lib.hid (fun W => fslotHolds_any c ca cc f.S W hc)
  have HRo := Lib.hid (fun W => froundHolds_any f.R W)
  have HKi := Lib.hid (fun W => fkindHolds_any c ca cc f a cap W)
  have HPa := Lib.hid (fun W => fpayHolds_any f a cap W)
  have HEc := Lib.hid (fun W => fechoes_any c ca cc f a cap W hc)
  generalize (decide (0 ≤ f.S) && decide (f.S < slotsI c)) = bs at *
  generalize (decide (0 ≤ f.R) && decide (f.R ≤ 65535)) = br at *
  cases bs
  · have HF := Lib.hid (checkF_a c f (by rw [HA.out]; rfl))
    go_enter Tryd.func47, Tryd.ntmps47
    go_wp2_with fail
    refine (HSl.out _).mono ?_
    rintro e wn ⟨rfl, hb⟩
    (try clear hQc hQf)
    replace hB := hB.trans (hb.mono hB.size)
    replace hC := hC.later hb
    replace hK := hK.later hb
    replace hE := hE.later hb
    have hQc := hC.at
    have hQf := hK.at
    unfold confBox at hQc
    unfold frBox at hQf
    clear hb
    go_wp2
    go_ret
    exact ⟨ret_int HF.out.symm, hB⟩
  cases br
  · have HF := Lib.hid (checkF_a c f (by rw [HA.out]; rfl))
    go_enter Tryd.func47, Tryd.ntmps47
    go_wp2_with fail
    refine (HSl.out _).mono ?_
    rintro e wn ⟨rfl, hb⟩
    (try clear hQc hQf)
    replace hB := hB.trans (hb.mono hB.size)
    replace hC := hC.later hb
    replace hK := hK.later hb
    replace hE := hE.later hb
    have hQc := hC.at
    have hQf := hK.at
    unfold confBox at hQc
    unfold frBox at hQf
    clear hb
    go_wp2_with fail
    refine (HRo.out _).mono ?_
    rintro e wl ⟨rfl, rfl⟩
    go_wp2
    go_ret
    exact ⟨ret_int HF.out.symm, hB⟩
  cases hk : badK c f
  rotate_left
  · have HF := Lib.hid (checkF_k c f (by rw [HA.out]; rfl) hk)
    rw [hk] at HKi
    go_enter Tryd.func47, Tryd.ntmps47
    go_wp2_with fail
    refine (HSl.out _).mono ?_
    rintro e wn ⟨rfl, hb⟩
    (try clear hQc hQf)
    replace hB := hB.trans (hb.mono hB.size)
    replace hC := hC.later hb
    replace hK := hK.later hb
    replace hE := hE.later hb
    have hQc := hC.at
    have hQf := hK.at
    unfold confBox at hQc
    unfold frBox at hQf
    clear hb
    go_wp2_with fail
    refine (HRo.out _).mono ?_
    rintro e wl ⟨rfl, rfl⟩
    go_wp2_with fail
    refine (HKi.out _).mono ?_
    rintro e wn ⟨rfl, hb⟩
    (try clear hQc hQf)
    replace hB := hB.trans (hb.mono hB.size)
    replace hC := hC.later hb
    replace hK := hK.later hb
    replace hE := hE.later hb
    have hQc := hC.at
    have hQf := hK.at
    unfold confBox at hQc
    unfold frBox at hQf
    clear hb
    go_wp2
    go_ret
    exact ⟨ret_int HF.out.symm, hB⟩
  rw [hk] at HKi
  cases hp : badP f
  rotate_left
  · have HF := Lib.hid (checkF_p c f (by rw [HA.out]; rfl) hk hp)
    rw [hp] at HPa
    go_enter Tryd.func47, Tryd.ntmps47
    go_wp2_with fail
    refine (HSl.out _).mono ?_
    rintro e wn ⟨rfl, hb⟩
    (try clear hQc hQf)
    replace hB := hB.trans (hb.mono hB.size)
    replace hC := hC.later hb
    replace hK := hK.later hb
    replace hE := hE.later hb
    have hQc := hC.at
    have hQf := hK.at
    unfold confBox at hQc
    unfold frBox at hQf
    clear hb
    go_wp2_with fail
    refine (HRo.out _).mono ?_
    rintro e wl ⟨rfl, rfl⟩
    go_wp2_with fail
    refine (HKi.out _).mono ?_
    rintro e wn ⟨rfl, hb⟩
    (try clear hQc hQf)
    replace hB := hB.trans (hb.mono hB.size)
    replace hC := hC.later hb
    replace hK := hK.later hb
    replace hE := hE.later hb
    have hQc := hC.at
    have hQf := hK.at
    unfold confBox at hQc
    unfold frBox at hQf
    clear hb
    go_wp2_with fail
    refine (HPa.out _).mono ?_
    rintro e wn ⟨rfl, hb⟩
    (try clear hQc hQf)
    replace hB := hB.trans (hb.mono hB.size)
    replace hC := hC.later hb
    replace hK := hK.later hb
    replace hE := hE.later hb
    have hQc := hC.at
    have hQf := hK.at
    unfold confBox at hQc
    unfold frBox at hQf
    clear hb
    go_wp2
    go_ret
    exact ⟨ret_int HF.out.symm, hB⟩
  rw [hp] at HPa
  by_cases hl : (f.E.length : Int) = echoI c f.K f.S
  · have HF := Lib.hid (checkF_e c f (by rw [HA.out]; rfl) hk hp hl)
    have d2 : ((f.E.length : Int) != echoI c f.K f.S) = false := by simpa using hl
    clear hl hk hp
    generalize echoI c f.K f.S = en at *
    have HCo := Lib.hid (fun W (h : RowT W a f.E) => fcontains_any a f.E cap W h)
    cases hx : f.E.all (itemB · false)
    all_goals
      rw [hx] at HF HCo
      clear hx
      go_enter Tryd.func47, Tryd.ntmps47
      go_wp2_with fail
      refine (HSl.out _).mono ?_
      rintro e wn ⟨rfl, hb⟩
      (try clear hQc hQf)
      replace hB := hB.trans (hb.mono hB.size)
      replace hC := hC.later hb
      replace hK := hK.later hb
      replace hE := hE.later hb
      have hQc := hC.at
      have hQf := hK.at
      unfold confBox at hQc
      unfold frBox at hQf
      clear hb
      go_wp2_with fail
      refine (HRo.out _).mono ?_
      rintro e wl ⟨rfl, rfl⟩
      go_wp2_with fail
      refine (HKi.out _).mono ?_
      rintro e wn ⟨rfl, hb⟩
      (try clear hQc hQf)
      replace hB := hB.trans (hb.mono hB.size)
      replace hC := hC.later hb
      replace hK := hK.later hb
      replace hE := hE.later hb
      have hQc := hC.at
      have hQf := hK.at
      unfold confBox at hQc
      unfold frBox at hQf
      clear hb
      go_wp2_with fail
      refine (HPa.out _).mono ?_
      rintro e wn ⟨rfl, hb⟩
      (try clear hQc hQf)
      replace hB := hB.trans (hb.mono hB.size)
      replace hC := hC.later hb
      replace hK := hK.later hb
      replace hE := hE.later hb
      have hQc := hC.at
      have hQf := hK.at
      unfold confBox at hQc
      unfold frBox at hQf
      clear hb
      go_wp2_with fail
      clear hQc hQf
      obtain ⟨I, F, i0, h0, hR, hcl⟩ := class_any wn (stable_and (stable_below w) (stable_and (stable_blk w.heap.size 24 (confBox c ca cc)) (stable_and (stable_blk (w.heap.size + 1) 29 (frBox f a cap)) (stable_rowT a f.E)))) ⟨hB, hC, hK, hE⟩
      have K_hB := Lib.hid (fun i => (hR i).1)
      have qhC0 : ∀ i, (F i).cell? ⟨w.heap.size, 0, none⟩ = some (.int .i64 c.N) := fun i => by rw [(hR i).2.1.at]; rfl
      have qhC1 : ∀ i, (F i).cell? ⟨w.heap.size, 1, none⟩ = some (.int .i64 c.Pi) := fun i => by rw [(hR i).2.1.at]; rfl
      have qhC2 : ∀ i, (F i).cell? ⟨w.heap.size, 2, none⟩ = some (.int .i64 c.E) := fun i => by rw [(hR i).2.1.at]; rfl
      have qhC3 : ∀ i, (F i).cell? ⟨w.heap.size, 3, none⟩ = some (.int .i64 c.G) := fun i => by rw [(hR i).2.1.at]; rfl
      have qhC4 : ∀ i, (F i).cell? ⟨w.heap.size, 4, none⟩ = some (.int .i64 c.F) := fun i => by rw [(hR i).2.1.at]; rfl
      have qhC5 : ∀ i, (F i).cell? ⟨w.heap.size, 5, none⟩ = some (.slice ca c.P.length cc) := fun i => by rw [(hR i).2.1.at]; rfl
      have K_hC := Lib.hid (fun i => (hR i).2.1)
      have qhK0 : ∀ i, (F i).cell? ⟨w.heap.size + 1, 0, none⟩ = some (.int .i64 f.K) := fun i => by rw [(hR i).2.2.1.at]; rfl
      have qhK1 : ∀ i, (F i).cell? ⟨w.heap.size + 1, 1, none⟩ = some (.int .i64 f.R) := fun i => by rw [(hR i).2.2.1.at]; rfl
      have qhK2 : ∀ i, (F i).cell? ⟨w.heap.size + 1, 2, none⟩ = some (.int .i64 f.S) := fun i => by rw [(hR i).2.2.1.at]; rfl
      have qhK3 : ∀ i, (F i).cell? ⟨w.heap.size + 1, 3, none⟩ = some (.int .i64 f.P.K) := fun i => by rw [(hR i).2.2.1.at]; rfl
      have qhK4 : ∀ i, (F i).cell? ⟨w.heap.size + 1, 4, none⟩ = some (.int .i64 f.P.V) := fun i => by rw [(hR i).2.2.1.at]; rfl
      have qhK5 : ∀ i, (F i).cell? ⟨w.heap.size + 1, 5, none⟩ = some (.slice a f.E.length cap) := fun i => by rw [(hR i).2.2.1.at]; rfl
      have K_hK := Lib.hid (fun i => (hR i).2.2.1)
      have K_hE := Lib.hid (fun i => (hR i).2.2.2)
      have HR := Lib.hid hR
      have HC := Lib.hid hcl
      have H0 := Lib.hid h0
      clear hR hcl h0
      haveI : Nonempty I := ⟨i0⟩
      refine wp_region_class F i0 H0.out (by kernel_rfl) (by kernel_rfl) ?_
      repeat (go_big_quiet_step ((first | (go_at_call 46; exact class_call HC.out (HEc.out _)))))
      refine wpQuiet_nil ?_
      intro _ hw'
      obtain ⟨iq, hw''⟩ := hw'
      subst hw''
      clear hB hC hK hE K_hB qhC0 qhC1 qhC2 qhC3 qhC4 qhC5 K_hC qhK0 qhK1 qhK2 qhK3 qhK4 qhK5 K_hK K_hE HC H0
      obtain ⟨hB, hC, hK, hE⟩ := HR.out iq
      clear HR
      generalize F iq = wn at *
      have hQf := hK.at
      unfold frBox at hQf
      have hQc := hC.at
      unfold confBox at hQc
      go_wp2_with fail
      refine (HCo.out _ hE).mono ?_
      rintro e wm ⟨rfl, hb⟩
      go_wp2
      go_ret
      exact ⟨ret_int HF.out.symm, hB.trans (hb.mono hB.size)⟩
  · have HF := Lib.hid (checkF_l c f (by rw [HA.out]; rfl) hk hp hl)
    have d2 : ((f.E.length : Int) != echoI c f.K f.S) = true := by simpa using hl
    clear hl hk hp
    generalize echoI c f.K f.S = en at *
    go_enter Tryd.func47, Tryd.ntmps47
    go_wp2_with fail
    refine (HSl.out _).mono ?_
    rintro e wn ⟨rfl, hb⟩
    (try clear hQc hQf)
    replace hB := hB.trans (hb.mono hB.size)
    replace hC := hC.later hb
    replace hK := hK.later hb
    replace hE := hE.later hb
    have hQc := hC.at
    have hQf := hK.at
    unfold confBox at hQc
    unfold frBox at hQf
    clear hb
    go_wp2_with fail
    refine (HRo.out _).mono ?_
    rintro e wl ⟨rfl, rfl⟩
    go_wp2_with fail
    refine (HKi.out _).mono ?_
    rintro e wn ⟨rfl, hb⟩
    (try clear hQc hQf)
    replace hB := hB.trans (hb.mono hB.size)
    replace hC := hC.later hb
    replace hK := hK.later hb
    replace hE := hE.later hb
    have hQc := hC.at
    have hQf := hK.at
    unfold confBox at hQc
    unfold frBox at hQf
    clear hb
    go_wp2_with fail
    refine (HPa.out _).mono ?_
    rintro e wn ⟨rfl, hb⟩
    (try clear hQc hQf)
    replace hB := hB.trans (hb.mono hB.size)
    replace hC := hC.later hb
    replace hK := hK.later hb
    replace hE := hE.later hb
    have hQc := hC.at
    have hQf := hK.at
    unfold confBox at hQc
    unfold frBox at hQf
    clear hb
    go_wp2_with fail
    clear hQc hQf
    obtain ⟨I, F, i0, h0, hR, hcl⟩ := class_any wn (stable_and (stable_below w) (stable_and (stable_blk w.heap.size 24 (confBox c ca cc)) (stable_and (stable_blk (w.heap.size + 1) 29 (frBox f a cap)) (stable_rowT a f.E)))) ⟨hB, hC, hK, hE⟩
    have K_hB := Lib.hid (fun i => (hR i).1)
    have qhC0 : ∀ i, (F i).cell? ⟨w.heap.size, 0, none⟩ = some (.int .i64 c.N) := fun i => by rw [(hR i).2.1.at]; rfl
    have qhC1 : ∀ i, (F i).cell? ⟨w.heap.size, 1, none⟩ = some (.int .i64 c.Pi) := fun i => by rw [(hR i).2.1.at]; rfl
    have qhC2 : ∀ i, (F i).cell? ⟨w.heap.size, 2, none⟩ = some (.int .i64 c.E) := fun i => by rw [(hR i).2.1.at]; rfl
    have qhC3 : ∀ i, (F i).cell? ⟨w.heap.size, 3, none⟩ = some (.int .i64 c.G) := fun i => by rw [(hR i).2.1.at]; rfl
    have qhC4 : ∀ i, (F i).cell? ⟨w.heap.size, 4, none⟩ = some (.int .i64 c.F) := fun i => by rw [(hR i).2.1.at]; rfl
    have qhC5 : ∀ i, (F i).cell? ⟨w.heap.size, 5, none⟩ = some (.slice ca c.P.length cc) := fun i => by rw [(hR i).2.1.at]; rfl
    have K_hC := Lib.hid (fun i => (hR i).2.1)
    have qhK0 : ∀ i, (F i).cell? ⟨w.heap.size + 1, 0, none⟩ = some (.int .i64 f.K) := fun i => by rw [(hR i).2.2.1.at]; rfl
    have qhK1 : ∀ i, (F i).cell? ⟨w.heap.size + 1, 1, none⟩ = some (.int .i64 f.R) := fun i => by rw [(hR i).2.2.1.at]; rfl
    have qhK2 : ∀ i, (F i).cell? ⟨w.heap.size + 1, 2, none⟩ = some (.int .i64 f.S) := fun i => by rw [(hR i).2.2.1.at]; rfl
    have qhK3 : ∀ i, (F i).cell? ⟨w.heap.size + 1, 3, none⟩ = some (.int .i64 f.P.K) := fun i => by rw [(hR i).2.2.1.at]; rfl
    have qhK4 : ∀ i, (F i).cell? ⟨w.heap.size + 1, 4, none⟩ = some (.int .i64 f.P.V) := fun i => by rw [(hR i).2.2.1.at]; rfl
    have qhK5 : ∀ i, (F i).cell? ⟨w.heap.size + 1, 5, none⟩ = some (.slice a f.E.length cap) := fun i => by rw [(hR i).2.2.1.at]; rfl
    have K_hK := Lib.hid (fun i => (hR i).2.2.1)
    have K_hE := Lib.hid (fun i => (hR i).2.2.2)
    have HR := Lib.hid hR
    have HC := Lib.hid hcl
    have H0 := Lib.hid h0
    clear hR hcl h0
    haveI : Nonempty I := ⟨i0⟩
    refine wp_region_class F i0 H0.out (by kernel_rfl) (by kernel_rfl) ?_
    repeat (go_big_quiet_step ((first | (go_at_call 46; exact class_call HC.out (HEc.out _)))))
    refine wpQuiet_nil ?_
    intro _ hw'
    obtain ⟨iq, hw''⟩ := hw'
    subst hw''
    clear hB hC hK hE K_hB qhC0 qhC1 qhC2 qhC3 qhC4 qhC5 K_hC qhK0 qhK1 qhK2 qhK3 qhK4 qhK5 K_hK K_hE HC H0
    obtain ⟨hB, hC, hK, hE⟩ := HR.out iq
    clear HR
    generalize F iq = wn at *
    have hQf := hK.at
    unfold frBox at hQf
    have hQc := hC.at
    unfold confBox at hQc
    go_wp2
    go_ret
    exact ⟨ret_int HF.out.symm, hB⟩

end Go.Proofs.YtkflijbhlibadabDoor
/-
  Appending a row that came in, or two numbers, to a row that the call made itself.
-/
namespace Go.Proofs.YtkflijbhlibadabDoor
open Go.RowKit
set_option maxRecDepth 100000
set_option linter.unusedVariables false

theorem OwnI.lit (w : World) (zs : List Int) (base : Nat) (hb : base ≤ w.heap.size) (hl : zs.length ≤ 1000000) : OwnI base (w.alloc (.cells (zs.map (Value.int .i64)).toArray 3)) (.slice (some ⟨w.heap.size, 0, none⟩) zs.length zs.length) zs := by
  have h := World.ownsRow_lit (base := base) (e := 3) (size := 1) w (zs.map (Value.int .i64)).toArray zs.length hb (by unfold maxLen; omega) (by simp)
  unfold OwnI
  simpa using h

theorem run_app_none {P : Program} (w : World) (base : Nat) (t ty e : TypeId) (i : TypeInfo) (size : Nat) (ht : P.underlying t = some (.slice e)) (hi : P.info? e = some i)
    (v : Value) (n : Nat) (xs : List Value) (hown : w.ownsRow base e size v n xs) (c : Nat) : (Builtin.append_ #[t, t] ty #[v, .slice none 0 c]).run P w = .ok v w := by
  rcases hown.2 with ⟨rfl, rfl⟩ | ⟨g, cap, cur, rfl, _, _, hnc, _⟩
  · simp [Builtin.append_, run_underlying ht, sizeOf, typeInfo, hi, Builtin.lenOf, Builtin.firstCells]
  · simp [Builtin.append_, run_underlying ht, sizeOf, typeInfo, hi, Builtin.lenOf, Builtin.firstCells, hnc, storeCells]

theorem run_appR (w : World) (ty : TypeId) (base : Nat) (v : Value) (zs : List Int) (hown : OwnI base w v zs) (A : Option Addr) (ys : List Int) (c : Nat) (hr : Row w A ys) (hlen : zs.length ≤ 1000000) (hlen2 : ys.length ≤ 1000000) (hbase : base ≤ w.heap.size) :
    ∃ v' w', (Builtin.append_ #[22, 22] ty #[v, .slice A ys.length c]).run Tryd.prog w = .ok v' w' ∧ OwnI base w' v' (zs ++ ys) ∧ w.grownBy w' v.ownBlock := by
  obtain ⟨i, hi, hz0, hz1, hz2⟩ := info_parts infoInt
  cases A with
  | none =>
    have hy : ys = [] := by
      rcases hr.2.2 with h | ⟨b, off, h, _⟩
      · exact h
      · cases h
    subst hy
    refine ⟨v, w, run_app_none w base _ ty 3 i 1 Tryd.underlying22 hi v zs.length _ hown c, by rw [List.append_nil]; exact hown, World.grownBy.refl w _⟩
  | some ad =>
    have hcells : ∀ j u, (ys.map (Value.int .i64))[j]? = some u → w.cell? (ad.add j) = some u := by
      intro j u hu
      rcases hr.2.2 with h | ⟨b, off, h, _, hc⟩
      · subst h; simp at hu
      · injection h with h
        subst h
        rw [List.getElem?_map] at hu
        obtain ⟨y, hy, rfl⟩ := Option.map_eq_some_iff.1 hu
        obtain ⟨hj, rfl⟩ := List.getElem?_eq_some_iff.1 hy
        rw [addr_at]
        exact hc j hj
    obtain ⟨v', w', hrun, h2, h3, _, _⟩ := run_append_own_at (P := Tryd.prog) w base 22 ty 3 i (.int .i64 0) 1 8 Tryd.underlying22 hi hz0 hz1 hz2 rfl (by omega) v zs.length _ hown ad ys.length c (ys.map (Value.int .i64)) (by simp) hcells
      (ints_oneCell .i64 ys) (by unfold maxLen; omega) (by omega) hbase
    refine ⟨v', w', hrun, ?_, h3⟩
    unfold OwnI
    rw [List.length_append, List.map_append]
    exact h2

/-- At a plain region's list. -/
theorem wpList_appR {ops : Array Oper} {rest : List Oper} {o : Oper} {a : Act} {Q : Exit → Act → World → Prop} (w : World) (hgd : o.guard = none) (s x : Operand)
    (ho : o.op = .call { callee := .builtin .append, args := #[s, x], argTypes := #[22, 22] })
    (base : Nat) (v : Value) (zs : List Int) (hs : a.eval s = v) (hown : OwnI base w v zs) (A : Option Addr) (ys : List Int) (c : Nat) (hx : a.eval x = .slice A ys.length c) (hr : Row w A ys) (hlen : zs.length ≤ 1000000) (hlen2 : ys.length ≤ 1000000) (hbase : base ≤ w.heap.size)
    (h : ∀ v' w', OwnI base w' v' (zs ++ ys) → w.grownBy w' v.ownBlock → wpList Tryd.prog ops Q rest (a.put o.dst v') w') : wpList Tryd.prog ops Q (o :: rest) a w := by
  obtain ⟨v', w', hrun, h2, h3⟩ := run_appR w o.type base v zs hown A ys c hr hlen hlen2 hbase
  refine wpList_plain hgd fun _ hK => ?_
  unfold Oper.wp execOp
  simp only [ho, resolve, invoke, builtin, Sem.run_bind, Sem.run_pure, Result.andThen_ok, List.map_toArray, List.map_cons, List.map_nil, hs, hx, hrun]
  exact hK _ _ (h v' w' h2 h3)

/-- A row that the call made: where it lies. -/
theorem OwnI.at {base : Nat} {W : World} {a : Option Addr} {cap : Nat} {zs : List Int} (h : OwnI base W (.slice a zs.length cap) zs) (h0 : 0 < zs.length) :
    ∃ g, a = some ⟨g, 0, none⟩ ∧ base ≤ g ∧ g < W.heap.size ∧ (∀ i (hi : i < zs.length), W.cell? ⟨g, i, none⟩ = some (.int .i64 zs[i])) ∧ ∀ i, W.frozen? ⟨g, i, none⟩ = false := by
  rcases h.2 with ⟨_, hn⟩ | ⟨g, c, cur, hv, hb, hg, hc, hm, hs, ht⟩
  · omega
  · injection hv with hv
    refine ⟨g, hv, hb, (Blk.lt hg), fun i hi => ?_, Blk.frozen hg⟩
    have hi2 : i < cur.size := by rw [hs]; omega
    have ht2 : (cur.toList.take (zs.length * 1))[i]? = (zs.map (Value.int .i64))[i]? := by rw [ht]
    rw [List.getElem?_take_of_lt (by omega), List.getElem?_map, List.getElem?_eq_getElem hi] at ht2
    have hb2 : W.cell? ⟨g, i, none⟩ = cur[i]? := Blk.at hg i
    rw [hb2, ← Array.getElem?_toList, ht2]
    rfl

/-- One of its numbers laid anew. -/
theorem OwnI.put {base : Nat} {W : World} {g cap : Nat} {zs : List Int} (h : OwnI base W (.slice (some ⟨g, 0, none⟩) zs.length cap) zs) (i : Nat) (hi : i < zs.length) (v : Int) :
    OwnI base (W.setCell ⟨g, i, none⟩ (.int .i64 v)) (.slice (some ⟨g, 0, none⟩) (zs.set i v).length cap) (zs.set i v) := by
  obtain ⟨h1, h2⟩ := h
  refine ⟨by simp, ?_⟩
  rcases h2 with ⟨hv, hn⟩ | ⟨g', c, cur, hv, hb, hg, hc, hm, hs, ht⟩
  · injection hv with hv; cases hv
  · injection hv with hv hv2 hv3
    injection hv with hv
    injection hv with hv
    subst hv hv3
    refine .inr ⟨g, cap, cur.setIfInBounds i (.int .i64 v), by simp, hb, ?_, by simpa using hc, hm, by simpa using hs, ?_⟩
    · exact Blk.set (w := W) (t := 3) hg i (.int .i64 v)
    · rw [List.length_set, Array.toList_setIfInBounds, List.take_set, ht, List.map_set]

end Go.Proofs.YtkflijbhlibadabDoor
/-
  A text that is put together by a strings.Builder: what its writing leaves as it was, a row of numbers made behind the builder among it.
-/
namespace Go.Proofs.YtkflijbhlibadabDoor
open Go.RowKit
set_option maxRecDepth 100000
set_option linter.unusedVariables false

theorem to_uns {P : Program} {src dst t : TypeId} {j : TypeInfo} (b : Nat) (w : World) (hs : P.underlying src = some (.pointer t)) (hd : P.underlying dst = some .unsafePointer) (ht : P.info? t = some j) (hj : j.size = 2) (hsh : w.shape? b = some (t, 2)) :
    (convert src dst (.pointer (some ⟨b, 0, none⟩))).run P w = .ok (.pointer (some ⟨b, 0, none⟩)) w := Lib.run_to_unsafe w ⟨b, 0, none⟩ hs hd ht (by rw [hj]; decide) hsh (Nat.zero_lt_succ 1)
theorem from_uns {P : Program} {src dst t : TypeId} {j : TypeInfo} (b : Nat) (w : World) (hs : P.underlying src = some .unsafePointer) (hd : P.underlying dst = some (.pointer t)) (ht : P.info? t = some j) (hsh : w.shape? b = some (t, 2)) (hl : liesAt P P.depth t (2 / P.cellsOf t) 0 t 1 = true) :
    (convert src dst (.pointer (some ⟨b, 0, none⟩))).run P w = .ok (.pointer (some ⟨b, 0, none⟩)) w := Lib.run_from_unsafe w ⟨b, 0, none⟩ hs hd ht hsh hl

theorem own_kind {w : World} {B : Nat} {e : TypeId} {v : Value} {n : Nat} {xs : List Value} (h : w.ownsRow B e 1 v n xs) : ∀ g, v.ownBlock = some g → ∃ c fz, w.heap[g]? = some (.cells c e fz) := by
  intro g hg
  rcases h.2 with ⟨rfl, _⟩ | ⟨g', cap, cur, rfl, _, hgg, _⟩
  · cases hg
  · injection hg with hg
    subst hg
    exact ⟨cur, _, hgg⟩

theorem strCells_mk (l : List UInt8) : Lib.strCells ⟨l.toArray⟩ = Lib.byteCells l := by
  unfold Lib.strCells Lib.byteCells
  simp

theorem byteCells_app (l m : List UInt8) : Lib.byteCells l ++ Lib.byteCells m = Lib.byteCells (l ++ m) := by
  unfold Lib.byteCells
  simp

end Go.Proofs.YtkflijbhlibadabDoor
/-
  Plain mathematics of frames, second part: a frame as a row of numbers, each with its size, written and read one behind the other.
-/
namespace Plait

/-- How many bits the number at a place has; where they begin. -/
def szN (p : Nat) : Nat := if p = 0 then 2 else if p = 1 then 16 else if p = 2 then 6 else if (p - 3) % 2 = 0 then 2 else 8
def offN (p : Nat) : Nat := if p = 0 then 0 else if p = 1 then 2 else if p = 2 then 18 else 24 + 10 * ((p - 3) / 2) + 2 * ((p - 3) % 2)

theorem offN_succ (p : Nat) : offN (p + 1) = offN p + szN p := by
  unfold offN szN
  rcases Nat.eq_zero_or_pos p with h | h
  · subst h; rfl
  · rcases (by omega : p = 1 ∨ p = 2 ∨ 3 ≤ p) with h | h | h
    · subst h; rfl
    · subst h; rfl
    · rw [if_neg (by omega), if_neg (by omega), if_neg (by omega), if_neg (by omega), if_neg (by omega), if_neg (by omega), if_neg (by omega), if_neg (by omega), if_neg (by omega)]
      split <;> omega

theorem szN_range (p : Nat) : 1 ≤ szN p ∧ szN p ≤ 16 := by unfold szN; split <;> (try split) <;> (try split) <;> (try split) <;> omega

/-- The number at a place, and the first m of them. -/
def numAt (b : List UInt8) (p : Nat) : Int := (numV ((b.drop (offN p)).take (szN p)) : Int)
def numsOf (b : List UInt8) (m : Nat) : List Int := (List.range m).map (numAt b)

theorem numsOf_len (b : List UInt8) (m : Nat) : (numsOf b m).length = m := by simp [numsOf]
theorem numsOf_succ (b : List UInt8) (m : Nat) : numsOf b (m + 1) = numsOf b m ++ [numAt b m] := by simp [numsOf, List.range_succ]
theorem numsOf_get (b : List UInt8) (m i : Nat) (h : i < m) : (numsOf b m)[i]? = some (numAt b i) := by simp [numsOf, h]

theorem numAt_range (b : List UInt8) (p : Nat) : 0 ≤ numAt b p ∧ numAt b p < 65536 := by
  have h1 := numV_lt ((b.drop (offN p)).take (szN p))
  have h2 : ((b.drop (offN p)).take (szN p)).length ≤ 16 := by rw [List.length_take]; have := (szN_range p).2; omega
  have h3 : (2 : Nat) ^ ((b.drop (offN p)).take (szN p)).length ≤ 2 ^ 16 := Nat.pow_le_pow_right (by decide) h2
  unfold numAt
  omega
theorem numsOf_in (b : List UInt8) (m : Nat) : ∀ z ∈ numsOf b m, -9223372036854775808 ≤ z ∧ z ≤ 9223372036854775807 := by
  intro z hz
  unfold numsOf at hz
  rw [List.mem_map] at hz
  obtain ⟨p, _, rfl⟩ := hz
  have := numAt_range b p
  omega

/-- Items of numbers, two each; a frame of numbers. -/
def itemsN (zs : List Int) : List It := (List.range (zs.length / 2)).map fun i => ⟨zs.getD (2 * i) 0, zs.getD (2 * i + 1) 0⟩
def frN (zs : List Int) : Fr := ⟨zs.getD 0 0, zs.getD 1 0, zs.getD 2 0, ⟨zs.getD 3 0, zs.getD 4 0⟩, itemsN (zs.drop 5)⟩

theorem take_mem {b : List UInt8} (h : allBits b) (i k : Nat) : allBits ((b.drop i).take k) := fun c hc => h c (List.mem_of_mem_drop (List.mem_of_mem_take hc))

theorem numV_num0 (l : List UInt8) (h : allBits l) (h1 : 1 ≤ l.length) (h2 : l.length ≤ 62) : (numV l : Int) = num0 l := by
  have ho : numOk l = true := by
    simp [numOk, h1, h2]
    exact h
  rw [num0, if_pos ho]

theorem numAt_num0 (b : List UInt8) (h : allBits b) (p : Nat) (hp : offN p + 1 ≤ b.length) : numAt b p = num0 ((b.drop (offN p)).take (szN p)) := by
  have hs := szN_range p
  refine numV_num0 _ (take_mem h _ _) ?_ ?_
  · rw [List.length_take, List.length_drop]; omega
  · rw [List.length_take]; omega

theorem nums_getD (b : List UInt8) (m i : Nat) (h : i < m) : (numsOf b m).getD i 0 = numAt b i := by
  rw [List.getD_eq_getElem?_getD, numsOf_get b m i h]
  rfl
theorem nums_dropD (b : List UInt8) (m i : Nat) (h : 5 + i < m) : ((numsOf b m).drop 5).getD i 0 = numAt b (5 + i) := by
  rw [List.getD_eq_getElem?_getD, List.getElem?_drop, numsOf_get b m (5 + i) h]
  rfl

theorem off_even (i : Nat) : offN (5 + 2 * i) = 34 + 10 * i ∧ szN (5 + 2 * i) = 2 ∧ offN (5 + (2 * i + 1)) = 36 + 10 * i ∧ szN (5 + (2 * i + 1)) = 8 := by
  unfold offN szN
  refine ⟨?_, ?_, ?_, ?_⟩
  · rw [if_neg (by omega), if_neg (by omega), if_neg (by omega)]; omega
  · rw [if_neg (by omega), if_neg (by omega), if_neg (by omega), if_pos (by omega)]
  · rw [if_neg (by omega), if_neg (by omega), if_neg (by omega)]; omega
  · rw [if_neg (by omega), if_neg (by omega), if_neg (by omega), if_neg (by omega)]

/-- How many numbers there are. -/
theorem cnt_of (n m : Nat) (h0 : 34 ≤ n) (h1 : offN m ≤ n) (h2 : n < offN (m + 1)) : 5 ≤ m ∧ (m - 5) / 2 = (n - 34) / 10 := by
  have h5 : 5 ≤ m := by
    rcases Nat.lt_or_ge m 5 with h | h
    · exfalso
      rcases (by omega : m = 0 ∨ m = 1 ∨ m = 2 ∨ m = 3 ∨ m = 4) with rfl | rfl | rfl | rfl | rfl <;> simp [offN] at h2 <;> omega
    · exact h
  refine ⟨h5, ?_⟩
  unfold offN at h1 h2
  rw [if_neg (by omega), if_neg (by omega), if_neg (by omega)] at h1 h2
  omega

theorem itOf_at (b : List UInt8) (h : allBits b) (i : Nat) (hi : 34 + 10 * i + 10 ≤ b.length) : (⟨numAt b (5 + 2 * i), numAt b (5 + (2 * i + 1))⟩ : It) = itOf (((b.drop 34).drop (10 * i)).take 10) := by
  obtain ⟨o1, s1, o2, s2⟩ := off_even i
  have e1 := numAt_num0 b h (5 + 2 * i) (by omega)
  have e2 := numAt_num0 b h (5 + (2 * i + 1)) (by omega)
  rw [e1, e2, o1, s1, o2, s2]
  unfold itOf
  rw [List.drop_drop, List.take_take, List.drop_take, List.drop_drop, List.take_take, show 34 + 10 * i + 2 = 36 + 10 * i by omega]
  rfl

theorem frN_nums (b : List UInt8) (h : allBits b) (m : Nat) (h0 : 34 ≤ b.length) (h1 : offN m ≤ b.length) (h2 : b.length < offN (m + 1)) : frN (numsOf b m) = (frOf b).with (itsOf (b.drop 34) ((b.length - 34) / 10)) := by
  obtain ⟨h5, hq⟩ := cnt_of b.length m h0 h1 h2
  have g : ∀ i, i < 5 → (numsOf b m).getD i 0 = num0 ((b.drop (offN i)).take (szN i)) := fun i hi => by
    rw [nums_getD b m i (by omega)]
    refine numAt_num0 b h i ?_
    rcases (by omega : i = 0 ∨ i = 1 ∨ i = 2 ∨ i = 3 ∨ i = 4) with rfl | rfl | rfl | rfl | rfl <;> simp [offN] <;> omega
  have hE : itemsN ((numsOf b m).drop 5) = itsOf (b.drop 34) ((b.length - 34) / 10) := by
    unfold itemsN itsOf
    rw [List.length_drop, numsOf_len, hq]
    apply List.map_congr_left
    intro i hi
    rw [List.mem_range] at hi
    have hm : 5 + (2 * i + 1) < m := by omega
    rw [nums_dropD b m (2 * i) (by omega), nums_dropD b m (2 * i + 1) hm]
    exact itOf_at b h i (by omega)
  unfold frN Fr.with frOf
  rw [hE, g 0 (by omega), g 1 (by omega), g 2 (by omega), g 3 (by omega), g 4 (by omega)]
  simp only [Fr.mk.injEq, and_true]
  refine ⟨rfl, rfl, rfl, ?_⟩
  unfold itOf
  rw [List.take_take, List.drop_take, List.drop_drop, List.take_take]
  rfl

/-- A frame's numbers. -/
def numsF (f : Fr) : List Int := [f.K, f.R, f.S, f.P.K, f.P.V] ++ f.E.flatMap fun t => [t.K, t.V]

theorem pairs_len : ∀ E : List It, (E.flatMap fun t => [t.K, t.V]).length = 2 * E.length
  | [] => rfl
  | t :: r => by rw [List.flatMap_cons, List.length_append, pairs_len r]; simp; omega
theorem numsF_len (f : Fr) : (numsF f).length = 5 + 2 * f.E.length := by rw [numsF, List.length_append, pairs_len]; rfl

theorem pairs_get : ∀ (E : List It) (i : Nat) (h : i < E.length), (E.flatMap fun t => [t.K, t.V])[2 * i]? = some E[i].K ∧ (E.flatMap fun t => [t.K, t.V])[2 * i + 1]? = some E[i].V
  | [], i, h => absurd h (by simp)
  | t :: r, 0, h => ⟨rfl, rfl⟩
  | t :: r, i + 1, h => by
    have ih := pairs_get r i (by simpa using h)
    rw [List.flatMap_cons]
    exact ih

theorem pairs_take (E : List It) (k : Nat) (h : k < E.length) : ((E.take (k + 1)).flatMap fun t => [t.K, t.V]) = ((E.take k).flatMap fun t => [t.K, t.V]) ++ [E[k].K, E[k].V] := by
  rw [List.take_succ_eq_append_getElem h, List.flatMap_append]
  simp

theorem numsF_get (f : Fr) (i : Nat) (h : i < f.E.length) : (numsF f).getD (5 + 2 * i) 0 = f.E[i].K ∧ (numsF f).getD (5 + (2 * i + 1)) 0 = f.E[i].V := by
  obtain ⟨h1, h2⟩ := pairs_get f.E i h
  unfold numsF
  constructor
  · rw [List.getD_eq_getElem?_getD, List.getElem?_append_right (by simp), show 5 + 2 * i - [f.K, f.R, f.S, f.P.K, f.P.V].length = 2 * i by simp, h1]
    rfl
  · rw [List.getD_eq_getElem?_getD, List.getElem?_append_right (by simp), show 5 + (2 * i + 1) - [f.K, f.R, f.S, f.P.K, f.P.V].length = 2 * i + 1 by simp, h2]
    rfl

/-- The first k numbers' bits. -/
def wrN (zs : List Int) (k : Nat) : List UInt8 := (List.range k).flatMap fun i => bitsL (zs.getD i 0) (szN i)

theorem wrN_succ (zs : List Int) (k : Nat) : wrN zs (k + 1) = wrN zs k ++ bitsL (zs.getD k 0) (szN k) := by simp [wrN, List.range_succ]
theorem wrN_len (zs : List Int) : ∀ k, (wrN zs k).length ≤ 16 * k
  | 0 => by simp [wrN]
  | k + 1 => by rw [wrN_succ, List.length_append, bitsL_length]; have := wrN_len zs k; have := (szN_range k).2; omega

theorem wrN_head (f : Fr) : wrN (numsF f) 5 = frHead f := by
  rw [wrN_succ, wrN_succ, wrN_succ, wrN_succ, wrN_succ]
  show [] ++ bitsL f.K 2 ++ bitsL f.R 16 ++ bitsL f.S 6 ++ bitsL f.P.K 2 ++ bitsL f.P.V 8 = _
  simp [frHead, itBits]

theorem wrN_items (f : Fr) : ∀ q, q ≤ f.E.length → wrN (numsF f) (5 + 2 * q) = frHead f ++ (f.E.take q).flatMap itBits
  | 0, _ => by rw [wrN_head]; simp
  | q + 1, h => by
    have ih := wrN_items f q (by omega)
    obtain ⟨_, s1, _, s2⟩ := off_even q
    obtain ⟨g1, g2⟩ := numsF_get f q (by omega)
    rw [show 5 + 2 * (q + 1) = 5 + 2 * q + 1 + 1 by omega, wrN_succ, wrN_succ, ih, show 5 + 2 * q + 1 = 5 + (2 * q + 1) by omega, s1, s2, g1, g2, List.take_succ_eq_append_getElem (by omega), List.flatMap_append]
    simp [itBits]

theorem wrN_all (f : Fr) : wrN (numsF f) (numsF f).length = frBits f := by
  rw [numsF_len, wrN_items f _ (Nat.le_refl _), List.take_of_length_le (Nat.le_refl _)]
  rfl

/-- One bit more of the number at a place. -/
theorem numV_step (b : List UInt8) (o k : Nat) (h : o + k < b.length) : numV ((b.drop o).take (k + 1)) = 2 * numV ((b.drop o).take k) + if b[o + k] = 49 then 1 else 0 := by
  have hk : k < (b.drop o).length := by rw [List.length_drop]; omega
  rw [List.take_succ_eq_append_getElem hk, numV_snoc, List.getElem_drop]

end Plait
/-
  Contracts of package frame, third part: a frame's numbers, its text.
-/
namespace Go.Proofs.YtkflijbhlibadabDoor
open Go.RowKit Plait
set_option maxRecDepth 100000
set_option linter.unusedVariables false

set_option maxHeartbeats 800000 in
theorem fsizeAt_any (p : Nat) (w : World) (hp : p ≤ 1000000000) :
    Calls Tryd.prog 62 #[.int .i64 p] w fun e w' => e = .returned (.int .i64 (szN p)) ∧ w = w' := by
  by_cases h0 : p = 0
  · subst h0
    go_enter Tryd.func62, Tryd.ntmps62
    go_wp2
    go_ret
    exact ⟨rfl, rfl⟩
  by_cases h1 : p = 1
  · subst h1
    go_enter Tryd.func62, Tryd.ntmps62
    go_wp2
    go_ret
    exact ⟨rfl, rfl⟩
  by_cases h2 : p = 2
  · subst h2
    go_enter Tryd.func62, Tryd.ntmps62
    go_wp2
    go_ret
    exact ⟨rfl, rfl⟩
  · have d0 : ((p : Int) == 0) = false := by simp; omega
    have d1 : ((p : Int) == 1) = false := by simp; omega
    have d2 : ((p : Int) == 2) = false := by simp; omega
    have HF := Lib.hid (show szN p = if (p - 3) % 2 = 0 then 2 else 8 by unfold szN; rw [if_neg h0, if_neg h1, if_neg h2])
    obtain ⟨r, hr⟩ : ∃ r, (p - 3) % 2 = r := ⟨_, rfl⟩
    rw [hr] at HF
    have ht : ((p : Int) - 3).tmod 2 = (r : Int) := by rw [Int.tmod_eq_emod_of_nonneg (by omega)]; omega
    have he : ((p : Int) - 3) % 2 = (r : Int) := by omega
    have hw : IntKind.i64.wrap ((p : Int) - 3) = (p : Int) - 3 := wrap_in _ (by omega) (by omega)
    rcases (by omega : r = 0 ∨ r = 1) with rfl | rfl
    · clear hr h0 h1 h2
      go_enter Tryd.func62, Tryd.ntmps62
      go_wp2
      go_ret
      exact ⟨ret_int (by rw [HF.out]; rfl), rfl⟩
    · clear hr h0 h1 h2
      go_enter Tryd.func62, Tryd.ntmps62
      go_wp2
      go_ret
      exact ⟨ret_int (by rw [HF.out]; rfl), rfl⟩

/-- What a call answers that makes a row, of which the whole block is known. -/
def OwnRet (zs : List Int) (w : World) (e : Ending) (w' : World) : Prop := ∃ v, e = .returned v ∧ OwnI w.heap.size w' v zs ∧ Below w.heap.size w w'

/-- The loop of numbersOf. -/
def NumsAt (f : Fr) (w : World) (v i : Value) (w' : World) : Prop :=
  ∃ k : Nat, k ≤ f.E.length ∧ i = .int .i64 k ∧ OwnI w.heap.size w' v ([f.K, f.R, f.S, f.P.K, f.P.V] ++ (f.E.take k).flatMap fun t => [t.K, t.V]) ∧ Below w.heap.size w w'

end Go.Proofs.YtkflijbhlibadabDoor
/-
  Contracts of package frame, fourth part: Text.
-/
namespace Go.Proofs.YtkflijbhlibadabDoor
open Go.RowKit Plait
set_option maxRecDepth 100000
set_option linter.unusedVariables false

theorem OwnI.weak {base base' : Nat} {w : World} {v : Value} {zs : List Int} (h : OwnI base w v zs) (hb : base' ≤ base) : OwnI base' w v zs := by
  refine ⟨h.1, ?_⟩
  rcases h.2 with h | ⟨g, cap, cur, h1, h2, h3⟩
  · exact .inl h
  · exact .inr ⟨g, cap, cur, h1, by omega, h3⟩

theorem numsF_in (f : Fr) (h1 : inI f.K) (h2 : inI f.R) (h3 : inI f.S) (h4 : inI f.P.K) (h5 : inI f.P.V) (hE : ∀ t ∈ f.E, inI t.K ∧ inI t.V) : ∀ z ∈ numsF f, -9223372036854775808 ≤ z ∧ z ≤ 9223372036854775807 := by
  intro z hz
  unfold numsF at hz
  rcases List.mem_append.1 hz with h | h
  · simp at h
    rcases h with rfl | rfl | rfl | rfl | rfl
    · exact h1
    · exact h2
    · exact h3
    · exact h4
    · exact h5
  · obtain ⟨t, ht, h⟩ := List.mem_flatMap.1 h
    simp at h
    rcases h with rfl | rfl
    · exact (hE t ht).1
    · exact (hE t ht).2

end Go.Proofs.YtkflijbhlibadabDoor
/-
  Contracts of package frame, fifth part: numbers out of bits, items out of numbers.
-/
namespace Go.Proofs.YtkflijbhlibadabDoor
open Go.RowKit Plait
set_option maxRecDepth 100000
set_option linter.unusedVariables false

theorem fvalueOf_any (c : UInt8) (w : World) :
    Calls Tryd.prog 63 #[.int .i32 (c.toNat : Nat)] w fun e w' => e = .returned (.int .i64 ((c.toNat : Int) - 48)) ∧ w = w' := by
  have hc : c.toNat < 256 := c.toNat_lt
  go_enter Tryd.func63, Tryd.ntmps63
  go_wp2
  go_ret
  exact ⟨rfl, rfl⟩

theorem or_bit2 (N : Nat) (c : UInt8) (hN : N < 2305843009213693952) (hc : c.toNat = 48 ∨ c.toNat = 49) : bits .or .i64 ((N : Int) * 2) ((c.toNat : Int) - 48) = ((2 * N + if c = 49 then 1 else 0 : Nat) : Int) := by
  rw [← or_bit N c hN hc]
  congr 1
  rcases hc with h | h <;> rw [h] <;> simp [wrap64, wrap32]

theorem next_at (l : List UInt8) (w : World) (k pos : Nat) (hk : w.heap[k]? = some (.stringIter ⟨l.toArray⟩ pos)) (hlt : pos < l.length) (ha : l[pos].toNat < 128) : ∀ ty, (Instr.next (.pointer (some ⟨k, 0, none⟩)) true ty).run Tryd.prog w = .ok (.tuple #[.bool true, .int .i64 pos, .int .i32 (l[pos].toNat : Nat)]) (w.iterAt k ⟨l.toArray⟩ (pos + 1)) := fun ty => by
  have hlt' : pos < (⟨l.toArray⟩ : ByteArray).size := by rw [size_mk]; exact hlt
  rw [Lib.run_next_ascii_at w k ⟨l.toArray⟩ pos ty hk hlt' (by rw [get_mk l pos hlt']; exact ha), get_mk l pos hlt']
theorem next_at_end (l : List UInt8) (w : World) (k pos : Nat) (hk : w.heap[k]? = some (.stringIter ⟨l.toArray⟩ pos)) (hlt : ¬ pos < l.length) : ∀ ty, (Instr.next (.pointer (some ⟨k, 0, none⟩)) true ty).run Tryd.prog w = .ok (.tuple #[.bool false]) w := fun ty =>
  Lib.run_next_end_at w k ⟨l.toArray⟩ pos ty hk (by rw [size_mk]; exact hlt)

theorem off_ge (q : Nat) : 2 * q ≤ offN q := by
  unfold offN
  rcases (by omega : q = 0 ∨ q = 1 ∨ q = 2 ∨ 3 ≤ q) with rfl | rfl | rfl | h
  · simp
  · simp
  · simp
  · rw [if_neg (by omega), if_neg (by omega), if_neg (by omega)]; omega

theorem OwnI.iterAt {base : Nat} {w : World} {v : Value} {zs : List Int} (h : OwnI base w v zs) {k : Nat} (hk : k < base) (s : ByteArray) (pos : Nat) : OwnI base (w.iterAt k s pos) v zs := by
  refine ⟨h.1, ?_⟩
  rcases h.2 with h | ⟨g, cap, cur, h1, h2, h3, h4⟩
  · exact .inl h
  · exact .inr ⟨g, cap, cur, h1, h2, by rw [Lib.iterAt_other _ _ _ _ _ (by omega)]; exact h3, h4⟩

/-- The loop of readNumbers. -/
def ReadsAt (b : List UInt8) (w : World) (v n m : Value) (w' : World) : Prop :=
  ∃ pos q M : Nat, pos ≤ b.length ∧ offN q ≤ pos ∧ pos + (M + 1) = offN (q + 1) ∧ w'.heap[w.heap.size]? = some (.stringIter ⟨b.toArray⟩ pos) ∧ n = .int .i64 (numV ((b.drop (offN q)).take (pos - offN q)) : Nat) ∧ m = .int .i64 ((M : Int) + 1) ∧
    OwnI (w.heap.size + 1) w' v (numsOf b q) ∧ Below w.heap.size w w' ∧ w.heap.size < w'.heap.size

theorem iterPos_of {w : World} {k : Nat} {s : ByteArray} {pos : Nat} (h : w.heap[k]? = some (.stringIter s pos)) : w.iterPos k = pos := by
  unfold World.iterPos
  rw [h]

theorem numV_small (b : List UInt8) (q pos : Nat) (h1 : offN q ≤ pos) (h2 : pos < offN (q + 1)) : numV ((b.drop (offN q)).take (pos - offN q)) < 65536 := by
  have h3 := numV_lt ((b.drop (offN q)).take (pos - offN q))
  have h4 := (szN_range q).2
  rw [offN_succ] at h2
  have h5 : ((b.drop (offN q)).take (pos - offN q)).length ≤ 16 := by rw [List.length_take]; omega
  have h6 : (2 : Nat) ^ ((b.drop (offN q)).take (pos - offN q)).length ≤ 2 ^ 16 := Nat.pow_le_pow_right (by decide) h5
  omega

set_option maxHeartbeats 3200000 in
set_option maxRecDepth 100000 in
theorem freadNumbers_any (b : List UInt8) (w : World) (hall : allBits b) (hs : b.length ≤ 1048576) :
    Calls Tryd.prog 45 #[.string ⟨b.toArray⟩] w fun e w' => ∃ m, offN m ≤ b.length ∧ b.length < offN (m + 1) ∧ OwnRet (numsOf b m) w e w' := by
  have HC0 := Lib.hid (fun W => fsizeAt_any 0 W (by omega))
  go_enter Tryd.func45, Tryd.ntmps45
  go_wp2_with fail
  refine (HC0.out _).mono ?_
  rintro e wl ⟨rfl, rfl⟩
  go_wp2
  go_loopw [3, 4, 5, 7] (fun v n m _ w' => ReadsAt b w v n m w') (fun _ _ _ _ w' => b.length - w'.iterPos w.heap.size)
  case atStart => exact ⟨0, 0, 1, Nat.zero_le _, by decide, by decide, heap_alloc_new w _, rfl, rfl, OwnI.nil _ _, alloc_below w _, by show w.heap.size < (w.alloc _).heap.size; simp⟩
  case round =>
    obtain ⟨pos, q, M, hp, ho1, ho2, hit, rfl, rfl, hown, hB, hsz⟩ := hrel
    by_cases hlt : pos < b.length
    · have hbit : b[pos].toNat = 48 ∨ b[pos].toNat = 49 := (bit_toNat _).1 (hall _ (List.getElem_mem hlt))
      have hnx := next_at b wr w.heap.size pos hit hlt (by omega)
      have hN := numV_small b q pos ho1 (by omega)
      have HT := Lib.hid (show numV ((b.drop (offN q)).take (pos + 1 - offN q)) = 2 * numV ((b.drop (offN q)).take (pos - offN q)) + if b[pos] = 49 then 1 else 0 by
        have h := numV_step b (offN q) (pos - offN q) (by omega)
        rw [show pos - offN q + 1 = pos + 1 - offN q by omega] at h
        rw [h]
        congr 3
        simp [show offN q + (pos - offN q) = pos by omega])
      generalize hNe : numV ((b.drop (offN q)).take (pos - offN q)) = N at *
      have HO := Lib.hid (or_bit2 N b[pos] (by omega) hbit)
      have HV := Lib.hid (fun W => fvalueOf_any b[pos] W)
      have HI := Lib.iterAt_heap wr w.heap.size ⟨b.toArray⟩ pos (pos + 1) hit
      have hBi := Lib.below_iterAt hB (Nat.le_refl w.heap.size) ⟨b.toArray⟩ (pos + 1)
      have hoi := hown.iterAt (k := w.heap.size) (by omega) ⟨b.toArray⟩ (pos + 1)
      have hsi : w.heap.size < (wr.iterAt w.heap.size ⟨b.toArray⟩ (pos + 1)).heap.size := by rw [Lib.iterAt_size]; exact hsz
      have hip := Lib.hid (iterPos_of hit)
      have hn2 : (if b[pos] = 49 then 1 else 0) ≤ 1 := by split <;> omega
      clear hNe hB hown hbit hit hsz
      generalize b[pos].toNat = ch at *
      generalize (if b[pos] = 49 then 1 else 0) = bt at *
      obtain ⟨Z, hZ⟩ : ∃ Z, 2 * N + bt = Z := ⟨_, rfl⟩
      rw [hZ] at HT HO
      have hZ1 : Z < 131072 := by omega
      clear hZ hn2
      go_wp2_with fail
      refine (HV.out _).mono ?_
      rintro e wl ⟨rfl, rfl⟩
      generalize wr.iterAt w.heap.size ⟨b.toArray⟩ (pos + 1) = wi at *
      clear hnx
      have hor := HO.out
      have hM : M ≤ 16 := by have := offN_succ q; have := (szN_range q).2; omega
      by_cases hm : M = 0
      · have d1 : ((M : Int) == 0) = true := by simp; omega
        have hq : pos + 1 = offN (q + 1) := by omega
        have HS := Lib.hid (show numsOf b (q + 1) = numsOf b q ++ [(Z : Int)] by
          rw [numsOf_succ, ← HT.out]
          unfold numAt
          rw [show szN q = pos + 1 - offN q by have := offN_succ q; omega])
        have hol := hoi.lt
        have hql := off_ge q
        have hll : (numsOf b q).length = q := numsOf_len b q
        have hll2 : (numsOf b q).length ≤ 1000000 := by rw [hll]; omega
        have HLL := Lib.hid hll
        clear hll
        have HC := Lib.hid (fun W => fsizeAt_any (q + 1) W (by omega))
        generalize numsOf b q = ZS at *
        obtain ⟨av, cv, rfl⟩ := hoi.form
        go_wp2_with (at_builtin; refine wpList_app1 _ rfl _ _ rfl (w.heap.size + 1) (.slice av ZS.length cv) ZS rfl (hoi.later (alloc_below _ _)) wi.heap.size 1 (Z : Int) rfl (heap_alloc_new _ _) hll2 (by simp; omega) ?_; intro g cap' w2 h1' h2' h3' h4')
        rw [show ((ZS.length : Int) + 1) = ((q + 1 : Nat) : Int) by rw [HLL.out]; rfl]
        refine (HC.out _).mono ?_
        rintro e wl ⟨rfl, rfl⟩
        have hs2 := offN_succ (q + 1)
        have hr2 := (szN_range (q + 1)).1
        have hi2 : w2.heap[w.heap.size]? = some (.stringIter ⟨b.toArray⟩ (pos + 1)) := by
          rw [h2'.block w.heap.size (by simp; omega) (fun e => by have := (hol _ e.symm).1; omega)]
          exact (Below.heap_alloc wi _ _ hsi).trans HI
        go_wp2
        go_roundw
        case rel =>
          refine ⟨pos + 1, q + 1, szN (q + 1) - 1, by omega, by omega, by omega, hi2, ?_, by congr 1; omega, by rw [HS.out]; exact h1', ?_, ?_⟩
          · rw [show pos + 1 - offN (q + 1) = 0 by omega]; rfl
          · exact below_grown (hBi.alloc (by omega) _) (by simp; omega) h2' (fun g e => by have := (hol g e).1; omega)
          · have := h2'.size; simp at this; omega
        case measure => rw [iterPos_of hi2, hip.out]; omega
      · have d1 : ((M : Int) == 0) = false := by simp; omega
        go_wp2
        go_roundw
        case rel => exact ⟨pos + 1, q, M - 1, by omega, by omega, by omega, HI, by rw [HT.out], by congr 1; omega, hoi, hBi, hsi⟩
        case measure => rw [iterPos_of HI, hip.out]; omega
    · have hnx := next_at_end b wr w.heap.size pos hit hlt
      obtain rfl : pos = b.length := by omega
      clear hit
      obtain ⟨av, cv, rfl⟩ := hown.form
      go_wp2
      go_ret
      exact ⟨q, ho1, by omega, _, rfl, hown.weak (by omega), hB⟩

end Go.Proofs.YtkflijbhlibadabDoor
/-
  Contracts of package frame, sixth part: items and frames out of numbers.
-/
namespace Go.Proofs.YtkflijbhlibadabDoor
open Go.RowKit Plait
set_option maxRecDepth 100000
set_option linter.unusedVariables false

/-- The first k items. -/
def itemsK (zs : List Int) (k : Nat) : List It := (List.range k).map fun i => ⟨zs.getD (2 * i) 0, zs.getD (2 * i + 1) 0⟩
theorem itemsK_len (zs : List Int) (k : Nat) : (itemsK zs k).length = k := by simp [itemsK]
theorem itemsK_succ (zs : List Int) (k : Nat) (h : 2 * k + 1 < zs.length) : itemsK zs (k + 1) = itemsK zs k ++ [⟨zs[2 * k], zs[2 * k + 1]⟩] := by
  unfold itemsK
  rw [List.range_succ, List.map_append]
  simp only [List.map_cons, List.map_nil]
  rw [List.getD_eq_getElem?_getD, List.getElem?_eq_getElem (by omega : 2 * k < zs.length), List.getD_eq_getElem?_getD, List.getElem?_eq_getElem h]
  rfl

/-- The loop of itemsOf. -/
def ItemsTo (zs : List Int) (w : World) (v i : Value) (w' : World) : Prop :=
  ∃ k p : Nat, p = 2 * k ∧ p ≤ zs.length ∧ i = .int .i64 p ∧ OwnT w.heap.size w' v (itemsK zs k) ∧ Below w.heap.size w w'

set_option maxHeartbeats 3200000 in
theorem fitemsOf_any (a : Option Addr) (zs : List Int) (cap : Nat) (w : World) (hrow : Row w a zs) (hl : zs.length ≤ 600000) :
    Calls Tryd.prog 61 #[.slice a zs.length cap] w fun e w' => ∃ v, e = .returned v ∧ OwnT w.heap.size w' v (itemsN zs) ∧ Below w.heap.size w w' := by
  have HF := Lib.hid (show itemsN zs = itemsK zs (zs.length / 2) from rfl)
  go_enter Tryd.func61, Tryd.ntmps61
  go_wp2
  go_loopw [3, 4] (fun v i w' => ItemsTo zs w v i w') (fun _ i _ => zs.length - (intOf i).toNat)
  case atStart => exact ⟨0, 0, rfl, Nat.zero_le _, rfl, OwnT.nil _ _, Below.refl _ _⟩
  case round =>
    obtain ⟨k, p, hp, hpl, rfl, hown, hB⟩ := hrel
    have Hp := Lib.hid hp
    clear hp
    by_cases hlt : p + 1 < zs.length
    · have d1 : decide ((p : Int) + 1 < (zs.length : Int)) = true := by simp; omega
      have d2 : decide (p + 1 < zs.length) = true := by simpa using hlt
      obtain ⟨b, off, rfl, hbl, c1, z1, z2⟩ := (hrow.later hB).get p (Nat.lt_of_succ_lt hlt)
      obtain ⟨b', off', he, _, c2, z3, z4⟩ := (hrow.later hB).get (p + 1) hlt
      injection he with he
      injection he with e1 e2
      subst e1 e2
      have HS := Lib.hid (show itemsK zs (k + 1) = itemsK zs k ++ [⟨zs[p], zs[p + 1]⟩] by have hp := Hp.out; subst hp; exact itemsK_succ zs k hlt)
      have hll : (itemsK zs k).length ≤ 300000 := by rw [itemsK_len]; have := Hp.out; omega
      have g0 : (0 : Int) ≤ (p : Int) := by omega
      have g1 : (p : Int) < (zs.length : Int) := by omega
      have g2 : (p : Int) + 1 < (zs.length : Int) := by omega
      have g3 : (0 : Int) ≤ (p : Int) + 1 := by omega
      have z0 : IntKind.i64.wrap ((p : Int) + 1) = (p : Int) + 1 := wrap_in _ (by omega) (by omega)
      generalize zs[p] = x at *
      generalize zs[p + 1] = y at *
      generalize itemsK zs k = TS at *
      obtain ⟨av, cv, rfl⟩ := hown.form
      have hol := hown.lt
      have hsz := hB.size
      go_wp2_with fail
      go_region_law (first
        | (refine step_appT _ (by rfl) (.tmp 12) (.tmp 23) (by rfl) w.heap.size (.slice av TS.length cv) TS (by simp [Act.eval]) (hown.later ((Below.refl _ wr).drew.alloc (Nat.le_refl _) _)) wr.heap.size 1 ⟨x, y⟩ (by simp [Act.eval]) (heap_alloc_new _ _) (by omega) (by simp; omega) ?_; intro g' cap' w2 h1' h2' h3' h4'))
      all_goals
        go_wp2
        go_roundw
        case rel =>
          refine ⟨k + 1, p + 2, by have := Hp.out; omega, by omega, by go_num, by rw [HS.out]; exact h1', ?_⟩
          exact below_grown (hB.drew.alloc hB.size _) (by simp; omega) h2' (fun g e => (hol g e).1)
        case measure => simp [intOf]; omega
    · have d1 : decide ((p : Int) + 1 < (zs.length : Int)) = false := by simp; omega
      have d2 : decide (p + 1 < zs.length) = false := by simpa using hlt
      obtain rfl : k = zs.length / 2 := by have := Hp.out; omega
      rw [← HF.out] at hown
      obtain ⟨av, cv, rfl⟩ := hown.form
      go_wp2
      go_ret
      exact ⟨_, rfl, hown, hB⟩

end Go.Proofs.YtkflijbhlibadabDoor
/-
  Contracts of package frame, seventh part: a frame out of numbers.
-/
namespace Go.Proofs.YtkflijbhlibadabDoor
open Go.RowKit Plait
set_option maxRecDepth 100000
set_option linter.unusedVariables false

/-- What a call answers that makes a frame, of whose items the whole block is known. -/
def FrOwn (f : Fr) (base : Nat) (w : World) (e : Ending) (w' : World) : Prop :=
  ∃ (a : Option Addr) (cap : Nat), e = .returned (.agg #[.int .i64 f.K, .int .i64 f.R, .int .i64 f.S, .int .i64 f.P.K, .int .i64 f.P.V, .slice a f.E.length cap]) ∧ OwnT base w' (.slice a f.E.length cap) f.E ∧ Below w.heap.size w w'

theorem row_drop {w : World} {g off : Nat} {zs : List Int} (h : Row w (some ⟨g, off, none⟩) zs) (k : Nat) : Row w (some ⟨g, off + k, none⟩) (zs.drop k) := by
  obtain ⟨h1, h2, h3⟩ := h
  refine ⟨by rw [List.length_drop]; omega, fun z hz => h2 z (List.mem_of_mem_drop hz), ?_⟩
  rcases h3 with h3 | ⟨b, o, e, hlt, hc⟩
  · left; rw [h3]; simp
  · right
    injection e with e
    injection e with e1 e2
    subst e1 e2
    refine ⟨g, off + k, rfl, hlt, fun i hi => ?_⟩
    rw [List.length_drop] at hi
    have := hc (k + i) (by omega)
    rw [List.getElem_drop]
    rw [show off + k + i = off + (k + i) by omega]
    exact this

/-- The first five numbers, where they lie. -/
def Five (W : World) (g : Nat) (z0 z1 z2 z3 z4 : Int) : Prop :=
  W.cell? ⟨g, 0, none⟩ = some (.int .i64 z0) ∧ W.cell? ⟨g, 1, none⟩ = some (.int .i64 z1) ∧ W.cell? ⟨g, 2, none⟩ = some (.int .i64 z2) ∧ W.cell? ⟨g, 3, none⟩ = some (.int .i64 z3) ∧ W.cell? ⟨g, 4, none⟩ = some (.int .i64 z4)

theorem five_of {w : World} {g : Nat} {zs : List Int} (h : Row w (some ⟨g, 0, none⟩) zs) (h5 : 5 ≤ zs.length) : g < w.heap.size ∧ Five w g (zs.getD 0 0) (zs.getD 1 0) (zs.getD 2 0) (zs.getD 3 0) (zs.getD 4 0) := by
  obtain ⟨_, _, h3⟩ := h
  rcases h3 with h3 | ⟨b, o, e, hlt, hc⟩
  · rw [h3] at h5; simp at h5
  · injection e with e
    injection e with e1 e2
    subst e1 e2
    have k : ∀ i, i < 5 → w.cell? ⟨g, i, none⟩ = some (.int .i64 (zs.getD i 0)) := fun i hi => by
      have := hc i (by omega)
      rw [Nat.zero_add] at this
      rw [this, List.getD_eq_getElem?_getD, List.getElem?_eq_getElem (by omega)]
      rfl
    exact ⟨hlt, k 0 (by omega), k 1 (by omega), k 2 (by omega), k 3 (by omega), k 4 (by omega)⟩

theorem Five.next {w w' : World} {g : Nat} {z0 z1 z2 z3 z4 : Int} (h : Five w g z0 z1 z2 z3 z4) (hg : g < w.heap.size) (hb : Below w.heap.size w w') : Five w' g z0 z1 z2 z3 z4 := by
  obtain ⟨h0, h1, h2, h3, h4⟩ := h
  have n := fun {o : Nat} {v : Value} (e : w.cell? ⟨g, o, none⟩ = some v) => (hb.cell (p := ⟨g, o, none⟩) hg).trans e
  exact ⟨n h0, n h1, n h2, n h3, n h4⟩
theorem Five.set {w : World} {g : Nat} {z0 z1 z2 z3 z4 : Int} (h : Five w g z0 z1 z2 z3 z4) {b : Nat} (hne : g < b) (k : Nat) (u : Value) : Five (w.setCell ⟨b, k, none⟩ u) g z0 z1 z2 z3 z4 := by
  obtain ⟨h0, h1, h2, h3, h4⟩ := h
  have n := fun {o : Nat} {v : Value} (e : w.cell? ⟨g, o, none⟩ = some v) => (World.cell?_setCell_other w ⟨b, k, none⟩ ⟨g, o, none⟩ u (fun e' => by injection e' with e1; omega)).trans e
  exact ⟨n h0, n h1, n h2, n h3, n h4⟩

/-- frameOf's last step. -/
theorem frameOf_end (f : Fr) (w wr : World) (av : Option Addr) (cv : Nat) (hB : Below w.heap.size w wr) (k2 : Blk wr w.heap.size 29 zeroBox)
    (hown : OwnT (w.heap.size + 1) wr (.slice av f.E.length cv) f.E) {f' : Fr} (hp : f' = f) {a : Act}
    (h6 : a.tmps[2]? = some (.pointer (some ⟨w.heap.size, 0, none⟩)) := by rfl) (hd : a.defers = [] := by rfl) :
    bodyPost Tryd.prog Tryd.f44 (FrOwn f' (w.heap.size + 1) w) Exit.ret a
      ((((((wr.setCell ⟨w.heap.size, 0, none⟩ (.int .i64 f.K)).setCell ⟨w.heap.size, 1, none⟩ (.int .i64 f.R)).setCell ⟨w.heap.size, 2, none⟩ (.int .i64 f.S)).setCell
        ⟨w.heap.size, 3, none⟩ (.int .i64 f.P.K)).setCell ⟨w.heap.size, 4, none⟩ (.int .i64 f.P.V)).setCell ⟨w.heap.size, 5, none⟩ (.slice av f.E.length cv)) := by
  subst hp
  unfold zeroBox at k2
  have kk := ((((((k2.set 0 (.int .i64 f'.K)).set 1 (.int .i64 f'.R)).set 2 (.int .i64 f'.S)).set 3 (.int .i64 f'.P.K)).set 4 (.int .i64 f'.P.V)).set 5 (.slice av f'.E.length cv))
  have hb2 := (((((hB.setCell (p := ⟨w.heap.size, 0, none⟩) (by simp) (.int .i64 f'.K)).setCell (p := ⟨w.heap.size, 1, none⟩) (by simp) (.int .i64 f'.R)).setCell (p := ⟨w.heap.size, 2, none⟩) (by simp) (.int .i64 f'.S)).setCell
    (p := ⟨w.heap.size, 3, none⟩) (by simp) (.int .i64 f'.P.K)).setCell (p := ⟨w.heap.size, 4, none⟩) (by simp) (.int .i64 f'.P.V)).setCell (p := ⟨w.heap.size, 5, none⟩) (by simp) (.slice av f'.E.length cv)
  have ho := (((((hown.far ⟨w.heap.size, 0, none⟩ (.int .i64 f'.K) (by simp)).far ⟨w.heap.size, 1, none⟩ (.int .i64 f'.R) (by simp)).far ⟨w.heap.size, 2, none⟩ (.int .i64 f'.S) (by simp)).far
    ⟨w.heap.size, 3, none⟩ (.int .i64 f'.P.K) (by simp)).far ⟨w.heap.size, 4, none⟩ (.int .i64 f'.P.V) (by simp)).far ⟨w.heap.size, 5, none⟩ (.slice av f'.E.length cv) (by simp)
  generalize (((((wr.setCell _ _).setCell _ _).setCell _ _).setCell _ _).setCell _ _).setCell _ _ = W at *
  have q := kk.at
  simp at q
  exact bodyPost_ret (v := .agg #[.int .i64 f'.K, .int .i64 f'.R, .int .i64 f'.S, .int .i64 f'.P.K, .int .i64 f'.P.V, .slice av f'.E.length cv]) (by simp [results, Tryd.results44, go_sem, h6, q]) hd ⟨av, cv, rfl, ho, hb2⟩

theorem size_ad (w : World) (o : Obj) : (w.alloc o).drew.heap.size = w.heap.size + 1 := by show (w.alloc o).heap.size = _; simp

attribute [local irreducible] World.alloc World.drew World.setCell

set_option maxHeartbeats 3200000 in
theorem fframeOf_any (g : Nat) (zs : List Int) (cap : Nat) (w : World) (hrow : Row w (some ⟨g, 0, none⟩) zs) (h5 : 5 ≤ zs.length) (hcap : zs.length ≤ cap) (hl : zs.length ≤ 600000) (hcl : cap ≤ 9223372036854775807) :
    Calls Tryd.prog 44 #[.slice (some ⟨g, 0, none⟩) zs.length cap] w (FrOwn (frN zs) (w.heap.size + 1) w) := by
  have HF := Lib.hid (show frN zs = ⟨zs.getD 0 0, zs.getD 1 0, zs.getD 2 0, ⟨zs.getD 3 0, zs.getD 4 0⟩, itemsN (zs.drop 5)⟩ from rfl)
  obtain ⟨hg, hF⟩ := five_of hrow h5
  have hB0 : Below w.heap.size w (w.alloc (.cells zeroBox 29)) := alloc_below w _
  have hZ0 : Blk (w.alloc (.cells zeroBox 29)) w.heap.size 29 zeroBox := Blk.new w _ _
  have hr0 := ((hrow.later hB0).drew1)
  have hF0 := hF.next hg hB0
  have hgn : g < (w.alloc (.cells zeroBox 29)).heap.size := Nat.lt_of_lt_of_le hg hB0.size
  have hd : Row (w.alloc (.cells zeroBox 29)).drew (if cap = 5 then some ⟨g, 0, none⟩ else some ⟨g, 5, none⟩) (zs.drop 5) := by
    split
    · rw [List.drop_of_length_le (by omega)]
      exact Row.empty _ _
    · simpa using row_drop hr0 5
  by_cases hc5 : cap = 5
  all_goals
    (first | rw [if_pos hc5] at hd | rw [if_neg hc5] at hd)
    have HI := Lib.hid (fun cp => fitemsOf_any _ (zs.drop 5) cp _ hd (by rw [List.length_drop]; omega))
    have hdl : (zs.drop 5).length = zs.length - 5 := List.length_drop
    rw [hdl] at HI
    have i0 : (0 : Int) < (zs.length : Int) := by omega
    have j0 : 0 < zs.length := by omega
    have i1 : (1 : Int) < (zs.length : Int) := by omega
    have j1 : 1 < zs.length := by omega
    have i2 : (2 : Int) < (zs.length : Int) := by omega
    have j2 : 2 < zs.length := by omega
    have i3 : (3 : Int) < (zs.length : Int) := by omega
    have j3 : 3 < zs.length := by omega
    have i4 : (4 : Int) < (zs.length : Int) := by omega
    have j4 : 4 < zs.length := by omega
    have s5 : (5 : Int) ≤ (zs.length : Int) := by omega
    have s6 : (zs.length : Int) ≤ (cap : Int) := by omega
    generalize zs.getD 0 0 = z0 at *
    generalize zs.getD 1 0 = z1 at *
    generalize zs.getD 2 0 = z2 at *
    generalize zs.getD 3 0 = z3 at *
    generalize zs.getD 4 0 = z4 at *
    clear hr0 hd hdl hrow hF
    go_enter Tryd.func44, Tryd.ntmps44
    go_wp2_with fail
    go_region_held3 (fun W => W.cell? ⟨g, 0, none⟩ = some (.int .i64 z0) ∧ W.cell? ⟨g, 1, none⟩ = some (.int .i64 z1) ∧ W.cell? ⟨g, 2, none⟩ = some (.int .i64 z2) ∧ W.cell? ⟨g, 3, none⟩ = some (.int .i64 z3) ∧ W.cell? ⟨g, 4, none⟩ = some (.int .i64 z4))
      (first | exact hF0.next hgn (Below.refl _ _).drew | assumption | exact hFm | exact (((((hFm.set hg 0 _).set hg 1 _).set hg 2 _).set hg 3 _).set hg 4 _).set hg 5 _)
      (first
      | (go_at_call 61; refine (HI.out _).mono ?_; rintro e wm ⟨v, rfl, hown, hbm⟩; rw [size_ad] at hown; replace hbm := from_drew hbm; have hFm := hF0.next hgn hbm; have hxm := hZ0.later hbm; have hxq := hxm.at; have hxf := hxm.frozen; unfold zeroBox at hxq; obtain ⟨av, cv, rfl⟩ := hown.form))
    all_goals go_wp2_with fail
    all_goals exact frameOf_end ⟨z0, z1, z2, ⟨z3, z4⟩, itemsN (zs.drop 5)⟩ w wm av cv (hB0.trans (hbm.mono hB0.size)) hxm hown HF.out

end Go.Proofs.YtkflijbhlibadabDoor
