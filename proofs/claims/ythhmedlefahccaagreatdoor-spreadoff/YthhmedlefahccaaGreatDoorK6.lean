/-
  Contracts of package frame, first part: whether a frame may be; nothing that was in memory is changed.
-/
import Derived.Test.YthhmedlefahccaaGreatDoorK5
import Derived.Test.YthhmedlefahccaaGreatDoorK1
import Derived.Deep.AppendLies
import Derived.Test.YthhmedlefahccaaGreatDoorK2
import Derived.Lib.OthersKept
namespace Go.Proofs.YthhmedlefahccaaGreatDoor
open Go.RowKit Plait
set_option maxRecDepth 100000
set_option linter.unusedVariables false

theorem fisOwn_any (c : Cf) (ca : Option Addr) (cc : Nat) (s : Int) (w : World) :
    Calls Tryz.prog 155 #[.agg #[.int .i64 c.N, .int .i64 c.Pi, .int .i64 c.E, .int .i64 c.G, .int .i64 c.F, .slice ca c.P.length cc], .int .i64 s] w fun e w' => e = .returned (.bool (decide (s < c.N))) ∧ Below w.heap.size w w' := by
  go_enter Tryz.func155, Tryz.ntmps155
  go_wp2
  go_ret
  exact ⟨rfl, alloc_below _ _⟩

theorem froundHolds_any (r : Int) (w : World) :
    Calls Tryz.prog 157 #[.int .i64 r] w fun e w' => e = .returned (.bool (decide (0 ≤ r) && decide (r ≤ 65535))) ∧ w = w' := by
  cases h : decide (0 ≤ r)
  · go_enter Tryz.func157, Tryz.ntmps157
    go_wp2
    go_ret
    exact ⟨rfl, rfl⟩
  · go_enter Tryz.func157, Tryz.ntmps157
    go_wp2
    go_ret
    exact ⟨ret_bool (by simp), rfl⟩

theorem fslotHolds_any (c : Cf) (ca : Option Addr) (cc : Nat) (s : Int) (w : World) (hc : c.Ok) :
    Calls Tryz.prog 156 #[.agg #[.int .i64 c.N, .int .i64 c.Pi, .int .i64 c.E, .int .i64 c.G, .int .i64 c.F, .slice ca c.P.length cc], .int .i64 s] w fun e w' => e = .returned (.bool (decide (0 ≤ s) && decide (s < slotsI c))) ∧ Below w.heap.size w w' := by
  cases h : decide (0 ≤ s)
  · go_enter Tryz.func156, Tryz.ntmps156
    go_wp2
    go_ret
    exact ⟨rfl, alloc_below _ _⟩
  · go_enter Tryz.func156, Tryz.ntmps156
    go_wp2_with fail
    refine (cslots_any c ca cc _ hc).mono ?_
    rintro e wn ⟨rfl, hb⟩
    obtain ⟨hB, hK, hZ⟩ := boxed hb
    have hQ := hK.at
    clear hb
    go_wp2
    go_ret
    exact ⟨ret_bool (by simp), hB⟩

set_option maxHeartbeats 800000 in
theorem fisNoItem_any (i : It) (w : World) :
    Calls Tryz.prog 161 #[.agg #[.int .i64 i.K, .int .i64 i.V]] w fun e w' => e = .returned (.bool (!itemB i false)) ∧ Below w.heap.size w w' := by
  by_cases k0 : i.K = 0
  · have HF := Lib.hid (show (!itemB i false) = (i.V != 0) by unfold itemB; rw [if_pos k0]; simp [bne])
    have c0 : (i.K == 0) = true := by simpa using k0
    clear k0
    go_enter Tryz.func161, Tryz.ntmps161
    go_wp2
    go_ret
    exact ⟨ret_bool HF.out.symm, alloc_below _ _⟩
  · have c0 : (i.K == 0) = false := by simpa using k0
    by_cases k1 : i.K = 1
    · have HF := Lib.hid (show (!itemB i false) = (i.V != 0) by unfold itemB; rw [if_neg k0, if_pos k1]; simp [bne])
      have c1 : (i.K == 1) = true := by simpa using k1
      clear k0 k1
      go_enter Tryz.func161, Tryz.ntmps161
      go_wp2
      go_ret
      exact ⟨ret_bool HF.out.symm, alloc_below _ _⟩
    · have c1 : (i.K == 1) = false := by simpa using k1
      by_cases k2 : i.K = 2
      · have HF := Lib.hid (show (!itemB i false) = (decide (i.V < 0) || decide (255 < i.V)) by
          unfold itemB
          rw [if_neg k0, if_neg k1, if_pos k2]
          by_cases h1 : i.V < 0
          · simp [h1]
          · by_cases h2 : 255 < i.V
            · simp [h1, h2]
            · simp [h1, h2]; omega)
        have c2 : (i.K == 2) = true := by simpa using k2
        clear k0 k1 k2
        cases hv : decide (i.V < 0)
        · rw [hv] at HF
          go_enter Tryz.func161, Tryz.ntmps161
          go_wp2
          go_ret
          exact ⟨ret_bool (by rw [HF.out]; simp), alloc_below _ _⟩
        · rw [hv] at HF
          go_enter Tryz.func161, Tryz.ntmps161
          go_wp2
          go_ret
          exact ⟨ret_bool (by rw [HF.out]; rfl), alloc_below _ _⟩
      · have HF := Lib.hid (show (!itemB i false) = true by unfold itemB; rw [if_neg k0, if_neg k1, if_neg k2]; rfl)
        have c2 : (i.K == 2) = false := by simpa using k2
        clear k0 k1 k2
        go_enter Tryz.func161, Tryz.ntmps161
        go_wp2
        go_ret
        exact ⟨ret_bool HF.out.symm, alloc_below _ _⟩

set_option maxHeartbeats 800000 in
theorem fkindHolds_any (c : Cf) (ca : Option Addr) (cc : Nat) (f : Fr) (a : Option Addr) (cap : Nat) (w : World) :
    Calls Tryz.prog 158 #[.agg #[.int .i64 c.N, .int .i64 c.Pi, .int .i64 c.E, .int .i64 c.G, .int .i64 c.F, .slice ca c.P.length cc], .agg #[.int .i64 f.K, .int .i64 f.R, .int .i64 f.S, .int .i64 f.P.K, .int .i64 f.P.V, .slice a f.E.length cap]] w fun e w' => e = .returned (.bool (!badK c f)) ∧ Below w.heap.size w w' := by
  have hB : Below w.heap.size w ((w.alloc (.cells #[.int .i64 c.N, .int .i64 c.Pi, .int .i64 c.E, .int .i64 c.G, .int .i64 c.F, .slice ca c.P.length cc] 24)).alloc (.cells #[.int .i64 f.K, .int .i64 f.R, .int .i64 f.S, .int .i64 f.P.K, .int .i64 f.P.V, .slice a f.E.length cap] 32)) := (alloc_below w _).alloc (by simp) _
  have own : f.K = 1 ∨ f.K = 2 → (!badK c f) = decide (f.S < c.N) := fun h => by
    unfold badK
    by_cases hs : f.S < c.N
    · have : ¬ c.N ≤ f.S := by omega
      rcases h with h | h <;> simp [h, hs]
    · have : c.N ≤ f.S := by omega
      rcases h with h | h <;> simp [h, hs, this]
  by_cases k1 : f.K = 1
  · have HF := Lib.hid (own (.inl k1))
    have c1 : (f.K == 1) = true := by simpa using k1
    clear k1 own
    go_enter Tryz.func158, Tryz.ntmps158
    go_wp2_with fail
    refine (fisOwn_any c ca cc f.S _).mono ?_
    rintro e wn ⟨rfl, hb⟩
    go_wp2
    go_ret
    exact ⟨ret_bool HF.out.symm, hB.trans (hb.mono hB.size)⟩
  · have c1 : (f.K == 1) = false := by simpa using k1
    by_cases k2 : f.K = 2
    · have HF := Lib.hid (own (.inr k2))
      have c2 : (f.K == 2) = true := by simpa using k2
      clear k1 k2 own
      go_enter Tryz.func158, Tryz.ntmps158
      go_wp2_with fail
      refine (fisOwn_any c ca cc f.S _).mono ?_
      rintro e wn ⟨rfl, hb⟩
      go_wp2
      go_ret
      exact ⟨ret_bool HF.out.symm, hB.trans (hb.mono hB.size)⟩
    · have c2 : (f.K == 2) = false := by simpa using k2
      by_cases k3 : f.K = 3
      · have HF := Lib.hid (show (!badK c f) = true by unfold badK; simp [k3])
        have c3 : (f.K == 3) = true := by simpa using k3
        clear k1 k2 k3 own
        go_enter Tryz.func158, Tryz.ntmps158
        go_wp2
        go_ret
        exact ⟨ret_bool HF.out.symm, hB⟩
      · have HF := Lib.hid (show (!badK c f) = false by
          unfold badK
          by_cases h1 : f.K < 1
          · simp [h1]
          · have : 3 < f.K := by omega
            simp [h1, this])
        have c3 : (f.K == 3) = false := by simpa using k3
        clear k1 k2 k3 own
        go_enter Tryz.func158, Tryz.ntmps158
        go_wp2
        go_ret
        exact ⟨ret_bool HF.out.symm, hB⟩

theorem pay_spec (f : Fr) : (!badP f) = (!(!itemB f.P false) && ((f.P.K != 0) == (f.K == 3))) := by
  unfold badP
  cases hK : (f.K == 3)
  · have : (f.K != 3) = true := by rw [bne, hK]; rfl
    rw [this]
    cases itemB f.P false <;> cases h0 : (f.P.K != 0) <;> rfl
  · have : (f.K != 3) = false := by rw [bne, hK]; rfl
    rw [this]
    unfold itemB
    by_cases k0 : f.P.K = 0
    · simp [k0]
    · simp [k0]

set_option maxHeartbeats 800000 in
theorem fpayHolds_any (f : Fr) (a : Option Addr) (cap : Nat) (w : World) :
    Calls Tryz.prog 159 #[.agg #[.int .i64 f.K, .int .i64 f.R, .int .i64 f.S, .int .i64 f.P.K, .int .i64 f.P.V, .slice a f.E.length cap]] w fun e w' => e = .returned (.bool (!badP f)) ∧ Below w.heap.size w w' := by
  have HF := Lib.hid (pay_spec f)
  have HC := Lib.hid (fun W => fisNoItem_any f.P W)
  cases hi : itemB f.P false
  · rw [hi] at HF HC
    go_enter Tryz.func159, Tryz.ntmps159
    go_wp2_with fail
    refine (HC.out _).mono ?_
    rintro e wn ⟨rfl, hb⟩
    obtain ⟨hB, hK, hZ⟩ := boxed hb
    have hQ := hK.at
    clear hb
    go_wp2
    go_ret
    exact ⟨ret_bool (by rw [HF.out]; rfl), hB⟩
  · rw [hi] at HF HC
    go_enter Tryz.func159, Tryz.ntmps159
    go_wp2_with fail
    refine (HC.out _).mono ?_
    rintro e wn ⟨rfl, hb⟩
    obtain ⟨hB, hK, hZ⟩ := boxed hb
    have hQ := hK.at
    clear hb
    go_wp2
    go_ret
    exact ⟨ret_bool (by rw [HF.out]; simp), hB⟩

set_option maxHeartbeats 800000 in
theorem fechoes_any (c : Cf) (ca : Option Addr) (cc : Nat) (f : Fr) (a : Option Addr) (cap : Nat) (w : World) (hc : c.Ok) :
    Calls Tryz.prog 145 #[.agg #[.int .i64 c.N, .int .i64 c.Pi, .int .i64 c.E, .int .i64 c.G, .int .i64 c.F, .slice ca c.P.length cc], .agg #[.int .i64 f.K, .int .i64 f.R, .int .i64 f.S, .int .i64 f.P.K, .int .i64 f.P.V, .slice a f.E.length cap]] w fun e w' => e = .returned (.int .i64 (echoI c f.K f.S)) ∧ Below w.heap.size w w' := by
  have hB : Below w.heap.size w ((w.alloc (.cells #[.int .i64 c.N, .int .i64 c.Pi, .int .i64 c.E, .int .i64 c.G, .int .i64 c.F, .slice ca c.P.length cc] 24)).alloc (.cells #[.int .i64 f.K, .int .i64 f.R, .int .i64 f.S, .int .i64 f.P.K, .int .i64 f.P.V, .slice a f.E.length cap] 32)) := (alloc_below w _).alloc (by simp) _
  have hC : Blk ((w.alloc (.cells #[.int .i64 c.N, .int .i64 c.Pi, .int .i64 c.E, .int .i64 c.G, .int .i64 c.F, .slice ca c.P.length cc] 24)).alloc (.cells #[.int .i64 f.K, .int .i64 f.R, .int .i64 f.S, .int .i64 f.P.K, .int .i64 f.P.V, .slice a f.E.length cap] 32)) w.heap.size 24 (confBox c ca cc) := (Blk.new w _ _).alloc _
  by_cases h3 : f.K = 3
  · have c3 : (f.K == 3) = true := by simpa using h3
    by_cases hs : f.S < c.N
    · have HF := Lib.hid (show echoI c f.K f.S = slotsI c by unfold echoI; rw [if_pos ⟨h3, hs⟩])
      have d1 : decide (f.S < c.N) = true := by simpa using hs
      clear h3 hs
      go_enter Tryz.func145, Tryz.ntmps145
      go_wp2_with fail
      refine (fisOwn_any c ca cc f.S _).mono ?_
      rintro e wn ⟨rfl, hb⟩
      rw [d1]
      replace hB := hB.trans (hb.mono hB.size)
      replace hC := hC.later hb
      have hQ := hC.at
      unfold confBox at hQ
      clear hb
      go_wp2_with fail
      refine (cslots_any c ca cc _ hc).mono ?_
      rintro e wm ⟨rfl, hb⟩
      go_wp2
      go_ret
      exact ⟨ret_int HF.out.symm, hB.trans (hb.mono hB.size)⟩
    · have HF := Lib.hid (show echoI c f.K f.S = 0 by unfold echoI; rw [if_neg (by simp [hs])])
      have d1 : decide (f.S < c.N) = false := by simpa using hs
      clear h3 hs
      go_enter Tryz.func145, Tryz.ntmps145
      go_wp2_with fail
      refine (fisOwn_any c ca cc f.S _).mono ?_
      rintro e wn ⟨rfl, hb⟩
      rw [d1]
      go_wp2
      go_ret
      exact ⟨ret_int HF.out.symm, hB.trans (hb.mono hB.size)⟩
  · have HF := Lib.hid (show echoI c f.K f.S = 0 by unfold echoI; rw [if_neg (by simp [h3])])
    have c3 : (f.K == 3) = false := by simpa using h3
    clear h3
    go_enter Tryz.func145, Tryz.ntmps145
    go_wp2
    go_ret
    exact ⟨ret_int HF.out.symm, hB⟩

/-- The first item that is none. -/
theorem no_take (E : List It) (k : Nat) (h : k < E.length) (ha : ∀ i ∈ E.take k, itemB i false = true) (e : itemB E[k] false = true) : ∀ i ∈ E.take (k + 1), itemB i false = true := by
  rw [List.take_succ_eq_append_getElem h]
  intro i hi
  rcases List.mem_append.1 hi with h | h
  · exact ha i h
  · simp at h; rw [h]; exact e

set_option maxHeartbeats 800000 in
theorem fcontains_any (a : Option Addr) (E : List It) (cap : Nat) (w : World) (hE : RowT w a E) :
    Calls Tryz.prog 160 #[.slice a E.length cap, .func (.func 161) #[] #[]] w fun e w' => e = .returned (.bool (!E.all (itemB · false))) ∧ Below w.heap.size w w' := by
  have HI := Lib.hid (show Calls Tryz.prog 164 #[.slice a E.length cap, .func (.func 161) #[] #[]] w fun e w' => (∃ r : Int, e = .returned (.int .i64 r) ∧ decide (0 ≤ r) = !E.all (itemB · false)) ∧ Below w.heap.size w w' from by
    have hlen := hE.1
    go_enter Tryz.func164, Tryz.ntmps164
    go_wp2
    go_loopw [5, 8] (fun _ i w' => ∃ k : Nat, k ≤ E.length ∧ i = .int .i64 k ∧ (E.take k).all (itemB · false) = true ∧ Below w.heap.size w w') (fun _ i _ => E.length - (intOf i).toNat)
    case atStart => exact ⟨0, Nat.zero_le _, rfl, by simp, Below.refl _ _⟩
    case round =>
      obtain ⟨k, hk, rfl, hno, hB⟩ := hrel
      have HN := Lib.hid hno
      clear hno
      by_cases hlt : k < E.length
      · have d1 : decide (k < E.length) = true := by simpa using hlt
        obtain ⟨b, off, rfl, hbl, c1, c2, _, _⟩ := (hE.later hB).get k hlt
        have HC := Lib.hid (fun W => fisNoItem_any E[k] W)
        cases hx : itemB E[k] false
        · have HF := Lib.hid (all_no E k hlt hx)
          rw [hx] at HC
          clear hx
          generalize E[k] = t at *
          go_wp2_with fail
          refine (HC.out _).mono ?_
          rintro e wn ⟨rfl, hb⟩
          go_wp2
          go_ret
          exact ⟨⟨_, rfl, by rw [HF.out]; simp⟩, hB.trans (hb.mono hB.size)⟩
        · have HS := Lib.hid (all_step E k hlt HN.out hx)
          rw [hx] at HC
          clear hx
          generalize E[k] = t at *
          go_wp2_with fail
          refine (HC.out _).mono ?_
          rintro e wn ⟨rfl, hb⟩
          go_wp2
          go_roundw
          case rel => exact ⟨k + 1, by omega, by go_num, HS.out, hB.trans (hb.mono hB.size)⟩
          case measure => simp [intOf]; omega
      · have d1 : decide (k < E.length) = false := by simpa using hlt
        have HF := Lib.hid (all_end E k hlt HN.out)
        go_wp2
        go_ret
        exact ⟨⟨_, rfl, by rw [HF.out]; rfl⟩, hB⟩)
  go_enter Tryz.func160, Tryz.ntmps160
  go_wp2_with fail
  refine HI.out.mono ?_
  rintro e wn ⟨⟨r, rfl, hr⟩, hb⟩
  have HR := Lib.hid hr
  clear hr
  go_wp2
  go_ret
  exact ⟨ret_bool HR.out, hb⟩

end Go.Proofs.YthhmedlefahccaaGreatDoor
/-
  Contracts of package frame, second part: Check.
-/
namespace Go.Proofs.YthhmedlefahccaaGreatDoor
open Go.RowKit Plait
set_option maxRecDepth 100000
set_option linter.unusedVariables false

theorem badA_spec (c : Cf) (f : Fr) : badA c f = (!(decide (0 ≤ f.S) && decide (f.S < slotsI c)) || !(decide (0 ≤ f.R) && decide (f.R ≤ 65535))) := by
  unfold badA
  rw [show decide (f.S < 0) = !decide (0 ≤ f.S) by rw [← decide_not]; congr 1; exact propext ⟨by omega, by omega⟩, show decide (slotsI c ≤ f.S) = !decide (f.S < slotsI c) by rw [← decide_not]; congr 1; exact propext ⟨by omega, by omega⟩,
    show decide (f.R < 0) = !decide (0 ≤ f.R) by rw [← decide_not]; congr 1; exact propext ⟨by omega, by omega⟩, show decide (65536 ≤ f.R) = !decide (f.R ≤ 65535) by rw [← decide_not]; congr 1; exact propext ⟨by omega, by omega⟩]
  cases decide (0 ≤ f.S) <;> cases decide (f.S < slotsI c) <;> cases decide (0 ≤ f.R) <;> cases decide (f.R ≤ 65535) <;> rfl

set_option maxHeartbeats 3200000 in
theorem fCheck_any (c : Cf) (ca : Option Addr) (cc : Nat) (f : Fr) (a : Option Addr) (cap : Nat) (w : World) (hc : c.Ok) (hE : RowT w a f.E) :
    Calls Tryz.prog 146 #[.agg #[.int .i64 c.N, .int .i64 c.Pi, .int .i64 c.E, .int .i64 c.G, .int .i64 c.F, .slice ca c.P.length cc], .agg #[.int .i64 f.K, .int .i64 f.R, .int .i64 f.S, .int .i64 f.P.K, .int .i64 f.P.V, .slice a f.E.length cap]] w fun e w' => e = .returned (.int .i64 (checkF c f)) ∧ Below w.heap.size w w' := by
  have hB : Below w.heap.size w ((w.alloc (.cells #[.int .i64 c.N, .int .i64 c.Pi, .int .i64 c.E, .int .i64 c.G, .int .i64 c.F, .slice ca c.P.length cc] 24)).alloc (.cells #[.int .i64 f.K, .int .i64 f.R, .int .i64 f.S, .int .i64 f.P.K, .int .i64 f.P.V, .slice a f.E.length cap] 32)) := (alloc_below w _).alloc (by simp) _
  have hC : Blk ((w.alloc (.cells #[.int .i64 c.N, .int .i64 c.Pi, .int .i64 c.E, .int .i64 c.G, .int .i64 c.F, .slice ca c.P.length cc] 24)).alloc (.cells #[.int .i64 f.K, .int .i64 f.R, .int .i64 f.S, .int .i64 f.P.K, .int .i64 f.P.V, .slice a f.E.length cap] 32)) w.heap.size 24 (confBox c ca cc) := (Blk.new w _ _).alloc _
  have hK : Blk ((w.alloc (.cells #[.int .i64 c.N, .int .i64 c.Pi, .int .i64 c.E, .int .i64 c.G, .int .i64 c.F, .slice ca c.P.length cc] 24)).alloc (.cells #[.int .i64 f.K, .int .i64 f.R, .int .i64 f.S, .int .i64 f.P.K, .int .i64 f.P.V, .slice a f.E.length cap] 32)) (w.heap.size + 1) 32 (frBox f a cap) := Blk.newAt _ _ (by simp)
  have hlen := hE.1
  replace hE := hE.later hB
  have HA := Lib.hid (badA_spec c f)
  have HSl := Lib.hid (fun W => fslotHolds_any c ca cc f.S W hc)
  have HRo := Lib.hid (fun W => froundHolds_any f.R W)
  have HKi := Lib.hid (fun W => fkindHolds_any c ca cc f a cap W)
  have HPa := Lib.hid (fun W => fpayHolds_any f a cap W)
  have HEc := Lib.hid (fun W => fechoes_any c ca cc f a cap W hc)
  generalize (decide (0 ≤ f.S) && decide (f.S < slotsI c)) = bs at *
  generalize (decide (0 ≤ f.R) && decide (f.R ≤ 65535)) = br at *
  cases bs
  · have HF := Lib.hid (checkF_a c f (by rw [HA.out]; rfl))
    go_enter Tryz.func146, Tryz.ntmps146
    go_wp2_with fail
    refine (HSl.out _).mono ?_
    rintro e wn ⟨rfl, hb⟩
    (try clear hQc hQf)
    replace hB := hB.trans (hb.mono hB.size)
    replace hC := hC.later hb
    replace hK := hK.later hb
    replace hE := hE.later hb
    have hQc := hC.at
    have hQf := hK.at
    unfold confBox at hQc
    unfold frBox at hQf
    clear hb
    go_wp2
    go_ret
    exact ⟨ret_int HF.out.symm, hB⟩
  cases br
  · have HF := Lib.hid (checkF_a c f (by rw [HA.out]; rfl))
    go_enter Tryz.func146, Tryz.ntmps146
    go_wp2_with fail
    refine (HSl.out _).mono ?_
    rintro e wn ⟨rfl, hb⟩
    (try clear hQc hQf)
    replace hB := hB.trans (hb.mono hB.size)
    replace hC := hC.later hb
    replace hK := hK.later hb
    replace hE := hE.later hb
    have hQc := hC.at
    have hQf := hK.at
    unfold confBox at hQc
    unfold frBox at hQf
    clear hb
    go_wp2_with fail
    refine (HRo.out _).mono ?_
    rintro e wl ⟨rfl, rfl⟩
    go_wp2
    go_ret
    exact ⟨ret_int HF.out.symm, hB⟩
  cases hk : badK c f
  rotate_left
  · have HF := Lib.hid (checkF_k c f (by rw [HA.out]; rfl) hk)
    rw [hk] at HKi
    go_enter Tryz.func146, Tryz.ntmps146
    go_wp2_with fail
    refine (HSl.out _).mono ?_
    rintro e wn ⟨rfl, hb⟩
    (try clear hQc hQf)
    replace hB := hB.trans (hb.mono hB.size)
    replace hC := hC.later hb
    replace hK := hK.later hb
    replace hE := hE.later hb
    have hQc := hC.at
    have hQf := hK.at
    unfold confBox at hQc
    unfold frBox at hQf
    clear hb
    go_wp2_with fail
    refine (HRo.out _).mono ?_
    rintro e wl ⟨rfl, rfl⟩
    go_wp2_with fail
    refine (HKi.out _).mono ?_
    rintro e wn ⟨rfl, hb⟩
    (try clear hQc hQf)
    replace hB := hB.trans (hb.mono hB.size)
    replace hC := hC.later hb
    replace hK := hK.later hb
    replace hE := hE.later hb
    have hQc := hC.at
    have hQf := hK.at
    unfold confBox at hQc
    unfold frBox at hQf
    clear hb
    go_wp2
    go_ret
    exact ⟨ret_int HF.out.symm, hB⟩
  rw [hk] at HKi
  cases hp : badP f
  rotate_left
  · have HF := Lib.hid (checkF_p c f (by rw [HA.out]; rfl) hk hp)
    rw [hp] at HPa
    go_enter Tryz.func146, Tryz.ntmps146
    go_wp2_with fail
    refine (HSl.out _).mono ?_
    rintro e wn ⟨rfl, hb⟩
    (try clear hQc hQf)
    replace hB := hB.trans (hb.mono hB.size)
    replace hC := hC.later hb
    replace hK := hK.later hb
    replace hE := hE.later hb
    have hQc := hC.at
    have hQf := hK.at
    unfold confBox at hQc
    unfold frBox at hQf
    clear hb
    go_wp2_with fail
    refine (HRo.out _).mono ?_
    rintro e wl ⟨rfl, rfl⟩
    go_wp2_with fail
    refine (HKi.out _).mono ?_
    rintro e wn ⟨rfl, hb⟩
    (try clear hQc hQf)
    replace hB := hB.trans (hb.mono hB.size)
    replace hC := hC.later hb
    replace hK := hK.later hb
    replace hE := hE.later hb
    have hQc := hC.at
    have hQf := hK.at
    unfold confBox at hQc
    unfold frBox at hQf
    clear hb
    go_wp2_with fail
    refine (HPa.out _).mono ?_
    rintro e wn ⟨rfl, hb⟩
    (try clear hQc hQf)
    replace hB := hB.trans (hb.mono hB.size)
    replace hC := hC.later hb
    replace hK := hK.later hb
    replace hE := hE.later hb
    have hQc := hC.at
    have hQf := hK.at
    unfold confBox at hQc
    unfold frBox at hQf
    clear hb
    go_wp2
    go_ret
    exact ⟨ret_int HF.out.symm, hB⟩
  rw [hp] at HPa
  by_cases hl : (f.E.length : Int) = echoI c f.K f.S
  · have HF := Lib.hid (checkF_e c f (by rw [HA.out]; rfl) hk hp hl)
    have d2 : ((f.E.length : Int) != echoI c f.K f.S) = false := by simpa using hl
    clear hl hk hp
    generalize echoI c f.K f.S = en at *
    have HCo := Lib.hid (fun W (h : RowT W a f.E) => fcontains_any a f.E cap W h)
    cases hx : f.E.all (itemB · false)
    all_goals
      rw [hx] at HF HCo
      clear hx
      go_enter Tryz.func146, Tryz.ntmps146
      go_wp2_with fail
      refine (HSl.out _).mono ?_
      rintro e wn ⟨rfl, hb⟩
      (try clear hQc hQf)
      replace hB := hB.trans (hb.mono hB.size)
      replace hC := hC.later hb
      replace hK := hK.later hb
      replace hE := hE.later hb
      have hQc := hC.at
      have hQf := hK.at
      unfold confBox at hQc
      unfold frBox at hQf
      clear hb
      go_wp2_with fail
      refine (HRo.out _).mono ?_
      rintro e wl ⟨rfl, rfl⟩
      go_wp2_with fail
      refine (HKi.out _).mono ?_
      rintro e wn ⟨rfl, hb⟩
      (try clear hQc hQf)
      replace hB := hB.trans (hb.mono hB.size)
      replace hC := hC.later hb
      replace hK := hK.later hb
      replace hE := hE.later hb
      have hQc := hC.at
      have hQf := hK.at
      unfold confBox at hQc
      unfold frBox at hQf
      clear hb
      go_wp2_with fail
      refine (HPa.out _).mono ?_
      rintro e wn ⟨rfl, hb⟩
      (try clear hQc hQf)
      replace hB := hB.trans (hb.mono hB.size)
      replace hC := hC.later hb
      replace hK := hK.later hb
      replace hE := hE.later hb
      have hQc := hC.at
      have hQf := hK.at
      unfold confBox at hQc
      unfold frBox at hQf
      clear hb
      go_wp2_with fail
      clear hQc hQf
      obtain ⟨I, F, i0, h0, hR, hcl⟩ := class_any wn (stable_and (stable_below w) (stable_and (stable_blk w.heap.size 24 (confBox c ca cc)) (stable_and (stable_blk (w.heap.size + 1) 32 (frBox f a cap)) (stable_rowT a f.E)))) ⟨hB, hC, hK, hE⟩
      have K_hB := Lib.hid (fun i => (hR i).1)
      have qhC0 : ∀ i, (F i).cell? ⟨w.heap.size, 0, none⟩ = some (.int .i64 c.N) := fun i => by rw [(hR i).2.1.at]; rfl
      have qhC1 : ∀ i, (F i).cell? ⟨w.heap.size, 1, none⟩ = some (.int .i64 c.Pi) := fun i => by rw [(hR i).2.1.at]; rfl
      have qhC2 : ∀ i, (F i).cell? ⟨w.heap.size, 2, none⟩ = some (.int .i64 c.E) := fun i => by rw [(hR i).2.1.at]; rfl
      have qhC3 : ∀ i, (F i).cell? ⟨w.heap.size, 3, none⟩ = some (.int .i64 c.G) := fun i => by rw [(hR i).2.1.at]; rfl
      have qhC4 : ∀ i, (F i).cell? ⟨w.heap.size, 4, none⟩ = some (.int .i64 c.F) := fun i => by rw [(hR i).2.1.at]; rfl
      have qhC5 : ∀ i, (F i).cell? ⟨w.heap.size, 5, none⟩ = some (.slice ca c.P.length cc) := fun i => by rw [(hR i).2.1.at]; rfl
      have K_hC := Lib.hid (fun i => (hR i).2.1)
      have qhK0 : ∀ i, (F i).cell? ⟨w.heap.size + 1, 0, none⟩ = some (.int .i64 f.K) := fun i => by rw [(hR i).2.2.1.at]; rfl
      have qhK1 : ∀ i, (F i).cell? ⟨w.heap.size + 1, 1, none⟩ = some (.int .i64 f.R) := fun i => by rw [(hR i).2.2.1.at]; rfl
      have qhK2 : ∀ i, (F i).cell? ⟨w.heap.size + 1, 2, none⟩ = some (.int .i64 f.S) := fun i => by rw [(hR i).2.2.1.at]; rfl
      have qhK3 : ∀ i, (F i).cell? ⟨w.heap.size + 1, 3, none⟩ = some (.int .i64 f.P.K) := fun i => by rw [(hR i).2.2.1.at]; rfl
      have qhK4 : ∀ i, (F i).cell? ⟨w.heap.size + 1, 4, none⟩ = some (.int .i64 f.P.V) := fun i => by rw [(hR i).2.2.1.at]; rfl
      have qhK5 : ∀ i, (F i).cell? ⟨w.heap.size + 1, 5, none⟩ = some (.slice a f.E.length cap) := fun i => by rw [(hR i).2.2.1.at]; rfl
      have K_hK := Lib.hid (fun i => (hR i).2.2.1)
      have K_hE := Lib.hid (fun i => (hR i).2.2.2)
      have HR := Lib.hid hR
      have HC := Lib.hid hcl
      have H0 := Lib.hid h0
      clear hR hcl h0
      haveI : Nonempty I := ⟨i0⟩
      refine wp_region_class F i0 H0.out (by kernel_rfl) (by kernel_rfl) ?_
      repeat (go_big_quiet_step ((first | (go_at_call 145; exact class_call HC.out (HEc.out _)))))
      refine wpQuiet_nil ?_
      intro _ hw'
      obtain ⟨iq, hw''⟩ := hw'
      subst hw''
      clear hB hC hK hE K_hB qhC0 qhC1 qhC2 qhC3 qhC4 qhC5 K_hC qhK0 qhK1 qhK2 qhK3 qhK4 qhK5 K_hK K_hE HC H0
      obtain ⟨hB, hC, hK, hE⟩ := HR.out iq
      clear HR
      generalize F iq = wn at *
      have hQf := hK.at
      unfold frBox at hQf
      have hQc := hC.at
      unfold confBox at hQc
      go_wp2_with fail
      refine (HCo.out _ hE).mono ?_
      rintro e wm ⟨rfl, hb⟩
      go_wp2
      go_ret
      exact ⟨ret_int HF.out.symm, hB.trans (hb.mono hB.size)⟩
  · have HF := Lib.hid (checkF_l c f (by rw [HA.out]; rfl) hk hp hl)
    have d2 : ((f.E.length : Int) != echoI c f.K f.S) = true := by simpa using hl
    clear hl hk hp
    generalize echoI c f.K f.S = en at *
    go_enter Tryz.func146, Tryz.ntmps146
    go_wp2_with fail
    refine (HSl.out _).mono ?_
    rintro e wn ⟨rfl, hb⟩
    (try clear hQc hQf)
    replace hB := hB.trans (hb.mono hB.size)
    replace hC := hC.later hb
    replace hK := hK.later hb
    replace hE := hE.later hb
    have hQc := hC.at
    have hQf := hK.at
    unfold confBox at hQc
    unfold frBox at hQf
    clear hb
    go_wp2_with fail
    refine (HRo.out _).mono ?_
    rintro e wl ⟨rfl, rfl⟩
    go_wp2_with fail
    refine (HKi.out _).mono ?_
    rintro e wn ⟨rfl, hb⟩
    (try clear hQc hQf)
    replace hB := hB.trans (hb.mono hB.size)
    replace hC := hC.later hb
    replace hK := hK.later hb
    replace hE := hE.later hb
    have hQc := hC.at
    have hQf := hK.at
    unfold confBox at hQc
    unfold frBox at hQf
    clear hb
    go_wp2_with fail
    refine (HPa.out _).mono ?_
    rintro e wn ⟨rfl, hb⟩
    (try clear hQc hQf)
    replace hB := hB.trans (hb.mono hB.size)
    replace hC := hC.later hb
    replace hK := hK.later hb
    replace hE := hE.later hb
    have hQc := hC.at
    have hQf := hK.at
    unfold confBox at hQc
    unfold frBox at hQf
    clear hb
    go_wp2_with fail
    clear hQc hQf
    obtain ⟨I, F, i0, h0, hR, hcl⟩ := class_any wn (stable_and (stable_below w) (stable_and (stable_blk w.heap.size 24 (confBox c ca cc)) (stable_and (stable_blk (w.heap.size + 1) 32 (frBox f a cap)) (stable_rowT a f.E)))) ⟨hB, hC, hK, hE⟩
    have K_hB := Lib.hid (fun i => (hR i).1)
    have qhC0 : ∀ i, (F i).cell? ⟨w.heap.size, 0, none⟩ = some (.int .i64 c.N) := fun i => by rw [(hR i).2.1.at]; rfl
    have qhC1 : ∀ i, (F i).cell? ⟨w.heap.size, 1, none⟩ = some (.int .i64 c.Pi) := fun i => by rw [(hR i).2.1.at]; rfl
    have qhC2 : ∀ i, (F i).cell? ⟨w.heap.size, 2, none⟩ = some (.int .i64 c.E) := fun i => by rw [(hR i).2.1.at]; rfl
    have qhC3 : ∀ i, (F i).cell? ⟨w.heap.size, 3, none⟩ = some (.int .i64 c.G) := fun i => by rw [(hR i).2.1.at]; rfl
    have qhC4 : ∀ i, (F i).cell? ⟨w.heap.size, 4, none⟩ = some (.int .i64 c.F) := fun i => by rw [(hR i).2.1.at]; rfl
    have qhC5 : ∀ i, (F i).cell? ⟨w.heap.size, 5, none⟩ = some (.slice ca c.P.length cc) := fun i => by rw [(hR i).2.1.at]; rfl
    have K_hC := Lib.hid (fun i => (hR i).2.1)
    have qhK0 : ∀ i, (F i).cell? ⟨w.heap.size + 1, 0, none⟩ = some (.int .i64 f.K) := fun i => by rw [(hR i).2.2.1.at]; rfl
    have qhK1 : ∀ i, (F i).cell? ⟨w.heap.size + 1, 1, none⟩ = some (.int .i64 f.R) := fun i => by rw [(hR i).2.2.1.at]; rfl
    have qhK2 : ∀ i, (F i).cell? ⟨w.heap.size + 1, 2, none⟩ = some (.int .i64 f.S) := fun i => by rw [(hR i).2.2.1.at]; rfl
    have qhK3 : ∀ i, (F i).cell? ⟨w.heap.size + 1, 3, none⟩ = some (.int .i64 f.P.K) := fun i => by rw [(hR i).2.2.1.at]; rfl
    have qhK4 : ∀ i, (F i).cell? ⟨w.heap.size + 1, 4, none⟩ = some (.int .i64 f.P.V) := fun i => by rw [(hR i).2.2.1.at]; rfl
    have qhK5 : ∀ i, (F i).cell? ⟨w.heap.size + 1, 5, none⟩ = some (.slice a f.E.length cap) := fun i => by rw [(hR i).2.2.1.at]; rfl
    have K_hK := Lib.hid (fun i => (hR i).2.2.1)
    have K_hE := Lib.hid (fun i => (hR i).2.2.2)
    have HR := Lib.hid hR
    have HC := Lib.hid hcl
    have H0 := Lib.hid h0
    clear hR hcl h0
    haveI : Nonempty I := ⟨i0⟩
    refine wp_region_class F i0 H0.out (by kernel_rfl) (by kernel_rfl) ?_
    repeat (go_big_quiet_step ((first | (go_at_call 145; exact class_call HC.out (HEc.out _)))))
    refine wpQuiet_nil ?_
    intro _ hw'
    obtain ⟨iq, hw''⟩ := hw'
    subst hw''
    clear hB hC hK hE K_hB qhC0 qhC1 qhC2 qhC3 qhC4 qhC5 K_hC qhK0 qhK1 qhK2 qhK3 qhK4 qhK5 K_hK K_hE HC H0
    obtain ⟨hB, hC, hK, hE⟩ := HR.out iq
    clear HR
    generalize F iq = wn at *
    have hQf := hK.at
    unfold frBox at hQf
    have hQc := hC.at
    unfold confBox at hQc
    go_wp2
    go_ret
    exact ⟨ret_int HF.out.symm, hB⟩

end Go.Proofs.YthhmedlefahccaaGreatDoor
/-
  Appending a row that came in, or two numbers, to a row that the call made itself.
-/
namespace Go.Proofs.YthhmedlefahccaaGreatDoor
open Go.RowKit
set_option maxRecDepth 100000
set_option linter.unusedVariables false

theorem OwnI.lit (w : World) (zs : List Int) (base : Nat) (hb : base ≤ w.heap.size) (hl : zs.length ≤ 1000000) : OwnI base (w.alloc (.cells (zs.map (Value.int .i64)).toArray 3)) (.slice (some ⟨w.heap.size, 0, none⟩) zs.length zs.length) zs := by
  have h := World.ownsRow_lit (base := base) (e := 3) (size := 1) w (zs.map (Value.int .i64)).toArray zs.length hb (by unfold maxLen; omega) (by simp)
  unfold OwnI
  simpa using h

theorem run_app_none {P : Program} (w : World) (base : Nat) (t ty e : TypeId) (i : TypeInfo) (size : Nat) (ht : P.underlying t = some (.slice e)) (hi : P.info? e = some i)
    (v : Value) (n : Nat) (xs : List Value) (hown : w.ownsRow base e size v n xs) (c : Nat) : (Builtin.append_ #[t, t] ty #[v, .slice none 0 c]).run P w = .ok v w := by
  rcases hown.2 with ⟨rfl, rfl⟩ | ⟨g, cap, cur, rfl, _, _, hnc, _⟩
  · simp [Builtin.append_, run_underlying ht, sizeOf, typeInfo, hi, Builtin.lenOf, Builtin.firstCells]
  · simp [Builtin.append_, run_underlying ht, sizeOf, typeInfo, hi, Builtin.lenOf, Builtin.firstCells, hnc, storeCells]

theorem run_appR (w : World) (ty : TypeId) (base : Nat) (v : Value) (zs : List Int) (hown : OwnI base w v zs) (A : Option Addr) (ys : List Int) (c : Nat) (hr : Row w A ys) (hlen : zs.length ≤ 1000000) (hlen2 : ys.length ≤ 1000000) (hbase : base ≤ w.heap.size) :
    ∃ v' w', (Builtin.append_ #[22, 22] ty #[v, .slice A ys.length c]).run Tryz.prog w = .ok v' w' ∧ OwnI base w' v' (zs ++ ys) ∧ w.grownBy w' v.ownBlock := by
  obtain ⟨i, hi, hz0, hz1, hz2⟩ := info_parts infoInt
  cases A with
  | none =>
    have hy : ys = [] := by
      rcases hr.2.2 with h | ⟨b, off, h, _⟩
      · exact h
      · cases h
    subst hy
    refine ⟨v, w, run_app_none w base _ ty 3 i 1 Tryz.underlying22 hi v zs.length _ hown c, by rw [List.append_nil]; exact hown, World.grownBy.refl w _⟩
  | some ad =>
    have hcells : ∀ j u, (ys.map (Value.int .i64))[j]? = some u → w.cell? (ad.add j) = some u := by
      intro j u hu
      rcases hr.2.2 with h | ⟨b, off, h, _, hc⟩
      · subst h; simp at hu
      · injection h with h
        subst h
        rw [List.getElem?_map] at hu
        obtain ⟨y, hy, rfl⟩ := Option.map_eq_some_iff.1 hu
        obtain ⟨hj, rfl⟩ := List.getElem?_eq_some_iff.1 hy
        rw [addr_at]
        exact hc j hj
    obtain ⟨v', w', hrun, h2, h3, _, _⟩ := run_append_own_at (P := Tryz.prog) w base 22 ty 3 i (.int .i64 0) 1 8 Tryz.underlying22 hi hz0 hz1 hz2 rfl (by omega) v zs.length _ hown ad ys.length c (ys.map (Value.int .i64)) (by simp) hcells
      (ints_oneCell .i64 ys) (by unfold maxLen; omega) (by omega) hbase
    refine ⟨v', w', hrun, ?_, h3⟩
    unfold OwnI
    rw [List.length_append, List.map_append]
    exact h2

/-- At a plain region's list. -/
theorem wpList_appR {ops : Array Oper} {rest : List Oper} {o : Oper} {a : Act} {Q : Exit → Act → World → Prop} (w : World) (hgd : o.guard = none) (s x : Operand)
    (ho : o.op = .call { callee := .builtin .append, args := #[s, x], argTypes := #[22, 22] })
    (base : Nat) (v : Value) (zs : List Int) (hs : a.eval s = v) (hown : OwnI base w v zs) (A : Option Addr) (ys : List Int) (c : Nat) (hx : a.eval x = .slice A ys.length c) (hr : Row w A ys) (hlen : zs.length ≤ 1000000) (hlen2 : ys.length ≤ 1000000) (hbase : base ≤ w.heap.size)
    (h : ∀ v' w', OwnI base w' v' (zs ++ ys) → w.grownBy w' v.ownBlock → wpList Tryz.prog ops Q rest (a.put o.dst v') w') : wpList Tryz.prog ops Q (o :: rest) a w := by
  obtain ⟨v', w', hrun, h2, h3⟩ := run_appR w o.type base v zs hown A ys c hr hlen hlen2 hbase
  refine wpList_plain hgd fun _ hK => ?_
  unfold Oper.wp execOp
  simp only [ho, resolve, invoke, builtin, Sem.run_bind, Sem.run_pure, Result.andThen_ok, List.map_toArray, List.map_cons, List.map_nil, hs, hx, hrun]
  exact hK _ _ (h v' w' h2 h3)

end Go.Proofs.YthhmedlefahccaaGreatDoor
/-
  A text that is put together by a strings.Builder: what its writing leaves as it was, a row of numbers made behind the builder among it.
-/
namespace Go.Proofs.YthhmedlefahccaaGreatDoor
open Go.RowKit
set_option maxRecDepth 100000
set_option linter.unusedVariables false

/-- The builder in block b holds these bytes. -/
abbrev Bd (B b : Nat) (l : List UInt8) (w : World) : Prop := Lib.IsBuilder 169 5 B b (Lib.byteCells l) w
/-- All blocks stand as they stood but the builder's and rows of bytes. -/
abbrev Kp (b : Nat) (w w' : World) : Prop := Lib.OthersKept 5 (some b) w w'

theorem infoB : (Tryz.prog.info? 5).map (fun i => (i.zero, i.size, i.bytes)) = some (some (.int .u8 0), 1, 1) := by kernel_rfl
theorem infoBd : (Tryz.prog.info? 169).map (fun i => i.size) = some 2 := by kernel_rfl
theorem liesBd : liesAt Tryz.prog Tryz.prog.depth 169 (2 / Tryz.prog.cellsOf 169) 0 169 1 = true := by kernel_rfl

theorem to_uns {P : Program} {src dst t : TypeId} {j : TypeInfo} (b : Nat) (w : World) (hs : P.underlying src = some (.pointer t)) (hd : P.underlying dst = some .unsafePointer) (ht : P.info? t = some j) (hj : j.size = 2) (hsh : w.shape? b = some (t, 2)) :
    (convert src dst (.pointer (some ⟨b, 0, none⟩))).run P w = .ok (.pointer (some ⟨b, 0, none⟩)) w := Lib.run_to_unsafe w ⟨b, 0, none⟩ hs hd ht (by rw [hj]; decide) hsh (Nat.zero_lt_succ 1)
theorem from_uns {P : Program} {src dst t : TypeId} {j : TypeInfo} (b : Nat) (w : World) (hs : P.underlying src = some .unsafePointer) (hd : P.underlying dst = some (.pointer t)) (ht : P.info? t = some j) (hsh : w.shape? b = some (t, 2)) (hl : liesAt P P.depth t (2 / P.cellsOf t) 0 t 1 = true) :
    (convert src dst (.pointer (some ⟨b, 0, none⟩))).run P w = .ok (.pointer (some ⟨b, 0, none⟩)) w := Lib.run_from_unsafe w ⟨b, 0, none⟩ hs hd ht hsh hl

set_option maxHeartbeats 1000000 in
set_option maxRecDepth 100000 in
theorem bcheck_used (b : Nat) (w : World) (h0 : w.cell? ⟨b, 0, none⟩ = some (.pointer (some ⟨b, 0, none⟩))) :
    Calls Tryz.prog 149 #[.pointer (some ⟨b, 0, none⟩)] w fun e w' => e = .returned (.tuple #[]) ∧ w' = w := by
  obtain ⟨j, hj, _⟩ := Option.map_eq_some_iff.1 infoBd
  go_enter Tryz.func149, Tryz.ntmps149
  go_wp2
  rw [Lib.run_neq_ptr_same w _ Tryz.underlying167 hj]
  go_wp2
  go_end0
  exact ⟨rfl, rfl⟩

set_option maxHeartbeats 1000000 in
set_option maxRecDepth 100000 in
theorem bcheck_fresh (b : Nat) (w : World) (h0 : w.cell? ⟨b, 0, none⟩ = some (.pointer none)) (hsh : w.shape? b = some (169, 2)) (hfz : w.frozen? ⟨b, 0, none⟩ = false) :
    Calls Tryz.prog 149 #[.pointer (some ⟨b, 0, none⟩)] w fun e w' => e = .returned (.tuple #[]) ∧ w' = w.setCell ⟨b, 0, none⟩ (.pointer (some ⟨b, 0, none⟩)) := by
  obtain ⟨j, hj, hs⟩ := Option.map_eq_some_iff.1 infoBd
  have hto := to_uns b w Tryz.underlying167 Tryz.underlying197 hj hs hsh
  have hfrom := from_uns b w Tryz.underlying197 Tryz.underlying167 hj hsh liesBd
  go_enter Tryz.func149, Tryz.ntmps149
  go_wp2
  rw [run_callFunc_extern Tryz.func162 (by kernel_rfl) (by kernel_rfl) (by kernel_rfl) (e := Extern.AbiNoEscape.same) (by kernel_rfl), Lib.run_noEscape]
  simp only [Result.andThen]
  rw [Oper.upon_value]
  go_wp2
  go_end0
  exact ⟨rfl, rfl⟩

theorem bcheck_any (B b : Nat) (bs : List Value) (w : World) (h : Lib.IsBuilder 169 5 B b bs w) :
    Calls Tryz.prog 149 #[.pointer (some ⟨b, 0, none⟩)] w fun e w' => e = .returned (.tuple #[]) ∧ Lib.BuilderAt 169 5 B b (.pointer (some ⟨b, 0, none⟩)) bs w' ∧ Below B w w' ∧ Kp b w w' := by
  rcases h with h | h
  · refine (bcheck_fresh b w h.cell0 h.shape h.frozen0).mono ?_
    rintro e w' ⟨rfl, rfl⟩
    exact ⟨rfl, h.used _, (Below.refl B w).setCell (p := ⟨b, 0, none⟩) h.1 _, (Lib.OthersKept.refl _ _ w).setCell ⟨b, 0, none⟩ rfl _⟩
  · refine (bcheck_used b w h.cell0).mono ?_
    rintro e w' ⟨rfl, rfl⟩
    exact ⟨rfl, h, Below.refl B _, Lib.OthersKept.refl _ _ _⟩

theorem own_kind {w : World} {B : Nat} {e : TypeId} {v : Value} {n : Nat} {xs : List Value} (h : w.ownsRow B e 1 v n xs) : ∀ g, v.ownBlock = some g → ∃ c fz, w.heap[g]? = some (.cells c e fz) := by
  intro g hg
  rcases h.2 with ⟨rfl, _⟩ | ⟨g', cap, cur, rfl, _, hgg, _⟩
  · cases hg
  · injection hg with hg
    subst hg
    exact ⟨cur, _, hgg⟩

theorem strCells_mk (l : List UInt8) : Lib.strCells ⟨l.toArray⟩ = Lib.byteCells l := by
  unfold Lib.strCells Lib.byteCells
  simp

theorem byteCells_app (l m : List UInt8) : Lib.byteCells l ++ Lib.byteCells m = Lib.byteCells (l ++ m) := by
  unfold Lib.byteCells
  simp

set_option maxHeartbeats 2000000 in
set_option maxRecDepth 100000 in
theorem bwrite_any (B b : Nat) (l m : List UInt8) (w : World) (h : Bd B b l w) (hlen : l.length + m.length ≤ 1048576) (hBw : B ≤ w.heap.size) :
    Calls Tryz.prog 135 #[.pointer (some ⟨b, 0, none⟩), .string ⟨m.toArray⟩] w fun e w' => (∃ n, e = .returned (.tuple #[.int .i64 n, .nilIface])) ∧ Bd B b (l ++ m) w' ∧ Below B w w' ∧ Kp b w w' := by
  obtain ⟨i, hi, hz0, hz1, hz2⟩ := info_parts infoB
  have hbl : (Lib.byteCells l).length = l.length := Lib.byteCells_length l
  have hsz : (⟨m.toArray⟩ : ByteArray).size = m.length := by simp [ByteArray.size]
  go_enter Tryz.func135, Tryz.ntmps135
  go_wp2_with fail
  refine (bcheck_any B b _ _ h).mono ?_
  rintro e w1 ⟨rfl, h1, hb1, hk1⟩
  obtain ⟨hB, v, hbk, hown, hne⟩ := h1
  have c0 : w1.cell? ⟨b, 0, none⟩ = some (.pointer (some ⟨b, 0, none⟩)) := by rw [Lib.cell_of_heap hbk]; rfl
  have c1 : w1.cell? ⟨b, 1, none⟩ = some v := by rw [Lib.cell_of_heap hbk]; rfl
  have hlt : b < w1.heap.size := (Array.getElem?_eq_some_iff.1 hbk).1
  have hs1 := hb1.size
  go_wp2_with (at_builtin; refine Lib.wpList_append_own_string _ rfl _ _ 123 9 rfl B 5 i Tryz.underlying123 Tryz.underlying9 hi hz0 hz1 hz2 _ _ _ rfl hown ⟨m.toArray⟩ rfl ?c3 ?c4 ?c5 ?_)
  case c3 => rw [hsz, hbl]; unfold maxLen; omega
  case c4 => rw [hsz, hbl]; omega
  case c5 => omega
  intro v' w2 hown' hgrow _
  have hb2 : w2.heap[b]? = some (.cells #[.pointer (some ⟨b, 0, none⟩), v] 169 (0, 0)) := (hgrow.block b hlt (fun e => hne e.symm)).trans hbk
  have d0 : w2.cell? ⟨b, 0, none⟩ = some (.pointer (some ⟨b, 0, none⟩)) := by rw [Lib.cell_of_heap hb2]; rfl
  have d1 : w2.cell? ⟨b, 1, none⟩ = some v := by rw [Lib.cell_of_heap hb2]; rfl
  have f1 : w2.frozen? ⟨b, 1, none⟩ = false := Lib.frozen_of_heap hb2 1
  obtain ⟨ao, n', cap, rfl⟩ : ∃ ao n' cap, v' = .slice ao n' cap := by
    rcases hown'.2 with ⟨hv, _⟩ | ⟨g, cap, cur, hv, _⟩
    · exact ⟨_, _, _, hv⟩
    · exact ⟨_, _, _, hv⟩
  go_wp2
  go_ret2
  refine ⟨⟨_, rfl⟩, .inr ?_, ?_, ?_⟩
  · refine Lib.BuilderAt.put hB hb2 (bs' := Lib.byteCells (l ++ m)) ?_ (by decide)
    have e : (Lib.byteCells (l ++ m)).length = l.length + m.length := by simp [Lib.byteCells]
    rw [e, ← byteCells_app, ← strCells_mk m]
    exact hown'
  · exact (below_grown hb1 (by omega) hgrow (fun k hk => (hown.lt k hk).1)).setCell (p := ⟨b, 1, none⟩) hB _
  · exact (hk1.grown hgrow (own_kind hown)).setCell ⟨b, 1, none⟩ rfl _

theorem bstring_any (B b : Nat) (l : List UInt8) (w : World) (h : Bd B b l w) (hBw : B ≤ w.heap.size) :
    Calls Tryz.prog 139 #[.pointer (some ⟨b, 0, none⟩)] w fun e w' => e = .returned (.string ⟨l.toArray⟩) ∧ Below B w w' := Tryz.Builder_String_any B b l w h hBw

theorem Bd.new (w : World) : Bd w.heap.size w.heap.size [] (w.alloc (.cells #[.pointer none, .slice none 0 0] 169)) := Lib.fresh_isBuilder _ _ w

/-- A builder where calls made memory alone. -/
theorem Bd.later {B b : Nat} {l : List UInt8} {w w' : World} (h : Bd B b l w) (hb : Below w.heap.size w w') : Bd B b l w' := by
  have go : ∀ p, Lib.BuilderAt 169 5 B b p (Lib.byteCells l) w → Lib.BuilderAt 169 5 B b p (Lib.byteCells l) w' := by
    rintro p ⟨hB, v, hbk, hown, hne⟩
    refine ⟨hB, v, (hb.block b (Array.getElem?_eq_some_iff.1 hbk).1).trans hbk, ?_, hne⟩
    refine World.ownsRow.kept (row := none) hown ⟨hb.os, hb.tape, hb.output, hb.size, fun k hk _ => hb.block k hk⟩ ?_
    cases hv : v.ownBlock
    · exact .inl rfl
    · exact .inr (by simp)
  rcases h with h | h
  · exact .inl (go _ h)
  · exact .inr (go _ h)

/-- A row of numbers, where a builder was written. -/
theorem OwnI.kp {base : Nat} {w w' : World} {v : Value} {zs : List Int} {b : Nat} (h : OwnI base w v zs) (hk : Kp b w w') (hb : ∃ cs, w.heap[b]? = some (.cells cs 169 (0, 0))) : OwnI base w' v zs := by
  refine ⟨h.1, ?_⟩
  rcases h.2 with h | ⟨g, cap, cur, h1, h2, h3, h4⟩
  · exact .inl h
  · refine .inr ⟨g, cap, cur, h1, h2, hk g _ h3 ?_ ?_, h4⟩
    · rintro e
      injection e with e
      subst e
      obtain ⟨cs, hb⟩ := hb
      rw [h3] at hb
      injection hb with hb
      injection hb with _ h5
      exact absurd h5 (by decide)
    · intro c fz e
      injection e with _ h5
      exact absurd h5 (by decide)

theorem Bd.box {B b : Nat} {l : List UInt8} {w : World} (h : Bd B b l w) : ∃ cs, w.heap[b]? = some (.cells cs 169 (0, 0)) := by
  rcases h with ⟨_, v, hb, _⟩ | ⟨_, v, hb, _⟩
  · exact ⟨_, hb⟩
  · exact ⟨_, hb⟩

end Go.Proofs.YthhmedlefahccaaGreatDoor
/-
  Plain mathematics of frames, second part: a frame as a row of numbers, each with its size, written and read one behind the other.
-/
namespace Plait

/-- How many bits the number at a place has; where they begin. -/
def szN (p : Nat) : Nat := if p = 0 then 2 else if p = 1 then 16 else if p = 2 then 6 else if (p - 3) % 2 = 0 then 2 else 8
def offN (p : Nat) : Nat := if p = 0 then 0 else if p = 1 then 2 else if p = 2 then 18 else 24 + 10 * ((p - 3) / 2) + 2 * ((p - 3) % 2)

theorem offN_succ (p : Nat) : offN (p + 1) = offN p + szN p := by
  unfold offN szN
  rcases Nat.eq_zero_or_pos p with h | h
  · subst h; rfl
  · rcases (by omega : p = 1 ∨ p = 2 ∨ 3 ≤ p) with h | h | h
    · subst h; rfl
    · subst h; rfl
    · rw [if_neg (by omega), if_neg (by omega), if_neg (by omega), if_neg (by omega), if_neg (by omega), if_neg (by omega), if_neg (by omega), if_neg (by omega), if_neg (by omega)]
      split <;> omega

theorem szN_range (p : Nat) : 1 ≤ szN p ∧ szN p ≤ 16 := by unfold szN; split <;> (try split) <;> (try split) <;> (try split) <;> omega

/-- The number at a place, and the first m of them. -/
def numAt (b : List UInt8) (p : Nat) : Int := (numV ((b.drop (offN p)).take (szN p)) : Int)
def numsOf (b : List UInt8) (m : Nat) : List Int := (List.range m).map (numAt b)

theorem numsOf_len (b : List UInt8) (m : Nat) : (numsOf b m).length = m := by simp [numsOf]
theorem numsOf_succ (b : List UInt8) (m : Nat) : numsOf b (m + 1) = numsOf b m ++ [numAt b m] := by simp [numsOf, List.range_succ]
theorem numsOf_get (b : List UInt8) (m i : Nat) (h : i < m) : (numsOf b m)[i]? = some (numAt b i) := by simp [numsOf, h]

theorem numAt_range (b : List UInt8) (p : Nat) : 0 ≤ numAt b p ∧ numAt b p < 65536 := by
  have h1 := numV_lt ((b.drop (offN p)).take (szN p))
  have h2 : ((b.drop (offN p)).take (szN p)).length ≤ 16 := by rw [List.length_take]; have := (szN_range p).2; omega
  have h3 : (2 : Nat) ^ ((b.drop (offN p)).take (szN p)).length ≤ 2 ^ 16 := Nat.pow_le_pow_right (by decide) h2
  unfold numAt
  omega
theorem numsOf_in (b : List UInt8) (m : Nat) : ∀ z ∈ numsOf b m, -9223372036854775808 ≤ z ∧ z ≤ 9223372036854775807 := by
  intro z hz
  unfold numsOf at hz
  rw [List.mem_map] at hz
  obtain ⟨p, _, rfl⟩ := hz
  have := numAt_range b p
  omega

/-- Items of numbers, two each; a frame of numbers. -/
def itemsN (zs : List Int) : List It := (List.range (zs.length / 2)).map fun i => ⟨zs.getD (2 * i) 0, zs.getD (2 * i + 1) 0⟩
def frN (zs : List Int) : Fr := ⟨zs.getD 0 0, zs.getD 1 0, zs.getD 2 0, ⟨zs.getD 3 0, zs.getD 4 0⟩, itemsN (zs.drop 5)⟩

theorem take_mem {b : List UInt8} (h : allBits b) (i k : Nat) : allBits ((b.drop i).take k) := fun c hc => h c (List.mem_of_mem_drop (List.mem_of_mem_take hc))

theorem numV_num0 (l : List UInt8) (h : allBits l) (h1 : 1 ≤ l.length) (h2 : l.length ≤ 62) : (numV l : Int) = num0 l := by
  have ho : numOk l = true := by
    simp [numOk, h1, h2]
    exact h
  rw [num0, if_pos ho]

theorem numAt_num0 (b : List UInt8) (h : allBits b) (p : Nat) (hp : offN p + 1 ≤ b.length) : numAt b p = num0 ((b.drop (offN p)).take (szN p)) := by
  have hs := szN_range p
  refine numV_num0 _ (take_mem h _ _) ?_ ?_
  · rw [List.length_take, List.length_drop]; omega
  · rw [List.length_take]; omega

theorem nums_getD (b : List UInt8) (m i : Nat) (h : i < m) : (numsOf b m).getD i 0 = numAt b i := by
  rw [List.getD_eq_getElem?_getD, numsOf_get b m i h]
  rfl
theorem nums_dropD (b : List UInt8) (m i : Nat) (h : 5 + i < m) : ((numsOf b m).drop 5).getD i 0 = numAt b (5 + i) := by
  rw [List.getD_eq_getElem?_getD, List.getElem?_drop, numsOf_get b m (5 + i) h]
  rfl

theorem off_even (i : Nat) : offN (5 + 2 * i) = 34 + 10 * i ∧ szN (5 + 2 * i) = 2 ∧ offN (5 + (2 * i + 1)) = 36 + 10 * i ∧ szN (5 + (2 * i + 1)) = 8 := by
  unfold offN szN
  refine ⟨?_, ?_, ?_, ?_⟩
  · rw [if_neg (by omega), if_neg (by omega), if_neg (by omega)]; omega
  · rw [if_neg (by omega), if_neg (by omega), if_neg (by omega), if_pos (by omega)]
  · rw [if_neg (by omega), if_neg (by omega), if_neg (by omega)]; omega
  · rw [if_neg (by omega), if_neg (by omega), if_neg (by omega), if_neg (by omega)]

/-- How many numbers there are. -/
theorem cnt_of (n m : Nat) (h0 : 34 ≤ n) (h1 : offN m ≤ n) (h2 : n < offN (m + 1)) : 5 ≤ m ∧ (m - 5) / 2 = (n - 34) / 10 := by
  have h5 : 5 ≤ m := by
    rcases Nat.lt_or_ge m 5 with h | h
    · exfalso
      rcases (by omega : m = 0 ∨ m = 1 ∨ m = 2 ∨ m = 3 ∨ m = 4) with rfl | rfl | rfl | rfl | rfl <;> simp [offN] at h2 <;> omega
    · exact h
  refine ⟨h5, ?_⟩
  unfold offN at h1 h2
  rw [if_neg (by omega), if_neg (by omega), if_neg (by omega)] at h1 h2
  omega

theorem itOf_at (b : List UInt8) (h : allBits b) (i : Nat) (hi : 34 + 10 * i + 10 ≤ b.length) : (⟨numAt b (5 + 2 * i), numAt b (5 + (2 * i + 1))⟩ : It) = itOf (((b.drop 34).drop (10 * i)).take 10) := by
  obtain ⟨o1, s1, o2, s2⟩ := off_even i
  have e1 := numAt_num0 b h (5 + 2 * i) (by omega)
  have e2 := numAt_num0 b h (5 + (2 * i + 1)) (by omega)
  rw [e1, e2, o1, s1, o2, s2]
  unfold itOf
  rw [List.drop_drop, List.take_take, List.drop_take, List.drop_drop, List.take_take, show 34 + 10 * i + 2 = 36 + 10 * i by omega]
  rfl

theorem frN_nums (b : List UInt8) (h : allBits b) (m : Nat) (h0 : 34 ≤ b.length) (h1 : offN m ≤ b.length) (h2 : b.length < offN (m + 1)) : frN (numsOf b m) = (frOf b).with (itsOf (b.drop 34) ((b.length - 34) / 10)) := by
  obtain ⟨h5, hq⟩ := cnt_of b.length m h0 h1 h2
  have g : ∀ i, i < 5 → (numsOf b m).getD i 0 = num0 ((b.drop (offN i)).take (szN i)) := fun i hi => by
    rw [nums_getD b m i (by omega)]
    refine numAt_num0 b h i ?_
    rcases (by omega : i = 0 ∨ i = 1 ∨ i = 2 ∨ i = 3 ∨ i = 4) with rfl | rfl | rfl | rfl | rfl <;> simp [offN] <;> omega
  have hE : itemsN ((numsOf b m).drop 5) = itsOf (b.drop 34) ((b.length - 34) / 10) := by
    unfold itemsN itsOf
    rw [List.length_drop, numsOf_len, hq]
    apply List.map_congr_left
    intro i hi
    rw [List.mem_range] at hi
    have hm : 5 + (2 * i + 1) < m := by omega
    rw [nums_dropD b m (2 * i) (by omega), nums_dropD b m (2 * i + 1) hm]
    exact itOf_at b h i (by omega)
  unfold frN Fr.with frOf
  rw [hE, g 0 (by omega), g 1 (by omega), g 2 (by omega), g 3 (by omega), g 4 (by omega)]
  simp only [Fr.mk.injEq, and_true]
  refine ⟨rfl, rfl, rfl, ?_⟩
  unfold itOf
  rw [List.take_take, List.drop_take, List.drop_drop, List.take_take]
  rfl

/-- A frame's numbers. -/
def numsF (f : Fr) : List Int := [f.K, f.R, f.S, f.P.K, f.P.V] ++ f.E.flatMap fun t => [t.K, t.V]

theorem pairs_len : ∀ E : List It, (E.flatMap fun t => [t.K, t.V]).length = 2 * E.length
  | [] => rfl
  | t :: r => by rw [List.flatMap_cons, List.length_append, pairs_len r]; simp; omega
theorem numsF_len (f : Fr) : (numsF f).length = 5 + 2 * f.E.length := by rw [numsF, List.length_append, pairs_len]; rfl

theorem pairs_get : ∀ (E : List It) (i : Nat) (h : i < E.length), (E.flatMap fun t => [t.K, t.V])[2 * i]? = some E[i].K ∧ (E.flatMap fun t => [t.K, t.V])[2 * i + 1]? = some E[i].V
  | [], i, h => absurd h (by simp)
  | t :: r, 0, h => ⟨rfl, rfl⟩
  | t :: r, i + 1, h => by
    have ih := pairs_get r i (by simpa using h)
    rw [List.flatMap_cons]
    exact ih

theorem pairs_take (E : List It) (k : Nat) (h : k < E.length) : ((E.take (k + 1)).flatMap fun t => [t.K, t.V]) = ((E.take k).flatMap fun t => [t.K, t.V]) ++ [E[k].K, E[k].V] := by
  rw [List.take_succ_eq_append_getElem h, List.flatMap_append]
  simp

theorem numsF_get (f : Fr) (i : Nat) (h : i < f.E.length) : (numsF f).getD (5 + 2 * i) 0 = f.E[i].K ∧ (numsF f).getD (5 + (2 * i + 1)) 0 = f.E[i].V := by
  obtain ⟨h1, h2⟩ := pairs_get f.E i h
  unfold numsF
  constructor
  · rw [List.getD_eq_getElem?_getD, List.getElem?_append_right (by simp), show 5 + 2 * i - [f.K, f.R, f.S, f.P.K, f.P.V].length = 2 * i by simp, h1]
    rfl
  · rw [List.getD_eq_getElem?_getD, List.getElem?_append_right (by simp), show 5 + (2 * i + 1) - [f.K, f.R, f.S, f.P.K, f.P.V].length = 2 * i + 1 by simp, h2]
    rfl

/-- The first k numbers' bits. -/
def wrN (zs : List Int) (k : Nat) : List UInt8 := (List.range k).flatMap fun i => bitsL (zs.getD i 0) (szN i)

theorem wrN_succ (zs : List Int) (k : Nat) : wrN zs (k + 1) = wrN zs k ++ bitsL (zs.getD k 0) (szN k) := by simp [wrN, List.range_succ]
theorem wrN_len (zs : List Int) : ∀ k, (wrN zs k).length ≤ 16 * k
  | 0 => by simp [wrN]
  | k + 1 => by rw [wrN_succ, List.length_append, bitsL_length]; have := wrN_len zs k; have := (szN_range k).2; omega

theorem wrN_head (f : Fr) : wrN (numsF f) 5 = frHead f := by
  rw [wrN_succ, wrN_succ, wrN_succ, wrN_succ, wrN_succ]
  show [] ++ bitsL f.K 2 ++ bitsL f.R 16 ++ bitsL f.S 6 ++ bitsL f.P.K 2 ++ bitsL f.P.V 8 = _
  simp [frHead, itBits]

theorem wrN_items (f : Fr) : ∀ q, q ≤ f.E.length → wrN (numsF f) (5 + 2 * q) = frHead f ++ (f.E.take q).flatMap itBits
  | 0, _ => by rw [wrN_head]; simp
  | q + 1, h => by
    have ih := wrN_items f q (by omega)
    obtain ⟨_, s1, _, s2⟩ := off_even q
    obtain ⟨g1, g2⟩ := numsF_get f q (by omega)
    rw [show 5 + 2 * (q + 1) = 5 + 2 * q + 1 + 1 by omega, wrN_succ, wrN_succ, ih, show 5 + 2 * q + 1 = 5 + (2 * q + 1) by omega, s1, s2, g1, g2, List.take_succ_eq_append_getElem (by omega), List.flatMap_append]
    simp [itBits]

theorem wrN_all (f : Fr) : wrN (numsF f) (numsF f).length = frBits f := by
  rw [numsF_len, wrN_items f _ (Nat.le_refl _), List.take_of_length_le (Nat.le_refl _)]
  rfl

/-- One bit more of the number at a place. -/
theorem numV_step (b : List UInt8) (o k : Nat) (h : o + k < b.length) : numV ((b.drop o).take (k + 1)) = 2 * numV ((b.drop o).take k) + if b[o + k] = 49 then 1 else 0 := by
  have hk : k < (b.drop o).length := by rw [List.length_drop]; omega
  rw [List.take_succ_eq_append_getElem hk, numV_snoc, List.getElem_drop]

end Plait
/-
  Contracts of package frame, third part: a frame's numbers, its text.
-/
namespace Go.Proofs.YthhmedlefahccaaGreatDoor
open Go.RowKit Plait
set_option maxRecDepth 100000
set_option linter.unusedVariables false

set_option maxHeartbeats 800000 in
theorem fsizeAt_any (p : Nat) (w : World) (hp : p ≤ 1000000000) :
    Calls Tryz.prog 137 #[.int .i64 p] w fun e w' => e = .returned (.int .i64 (szN p)) ∧ w = w' := by
  by_cases h0 : p = 0
  · subst h0
    go_enter Tryz.func137, Tryz.ntmps137
    go_wp2
    go_ret
    exact ⟨rfl, rfl⟩
  by_cases h1 : p = 1
  · subst h1
    go_enter Tryz.func137, Tryz.ntmps137
    go_wp2
    go_ret
    exact ⟨rfl, rfl⟩
  by_cases h2 : p = 2
  · subst h2
    go_enter Tryz.func137, Tryz.ntmps137
    go_wp2
    go_ret
    exact ⟨rfl, rfl⟩
  · have d0 : ((p : Int) == 0) = false := by simp; omega
    have d1 : ((p : Int) == 1) = false := by simp; omega
    have d2 : ((p : Int) == 2) = false := by simp; omega
    have HF := Lib.hid (show szN p = if (p - 3) % 2 = 0 then 2 else 8 by unfold szN; rw [if_neg h0, if_neg h1, if_neg h2])
    obtain ⟨r, hr⟩ : ∃ r, (p - 3) % 2 = r := ⟨_, rfl⟩
    rw [hr] at HF
    have ht : ((p : Int) - 3).tmod 2 = (r : Int) := by rw [Int.tmod_eq_emod_of_nonneg (by omega)]; omega
    have he : ((p : Int) - 3) % 2 = (r : Int) := by omega
    have hw : IntKind.i64.wrap ((p : Int) - 3) = (p : Int) - 3 := wrap_in _ (by omega) (by omega)
    rcases (by omega : r = 0 ∨ r = 1) with rfl | rfl
    · clear hr h0 h1 h2
      go_enter Tryz.func137, Tryz.ntmps137
      go_wp2
      go_ret
      exact ⟨ret_int (by rw [HF.out]; rfl), rfl⟩
    · clear hr h0 h1 h2
      go_enter Tryz.func137, Tryz.ntmps137
      go_wp2
      go_ret
      exact ⟨ret_int (by rw [HF.out]; rfl), rfl⟩

/-- What a call answers that makes a row, of which the whole block is known. -/
def OwnRet (zs : List Int) (w : World) (e : Ending) (w' : World) : Prop := ∃ v, e = .returned v ∧ OwnI w.heap.size w' v zs ∧ Below w.heap.size w w'

/-- The loop of numbersOf. -/
def NumsAt (f : Fr) (w : World) (v i : Value) (w' : World) : Prop :=
  ∃ k : Nat, k ≤ f.E.length ∧ i = .int .i64 k ∧ OwnI w.heap.size w' v ([f.K, f.R, f.S, f.P.K, f.P.V] ++ (f.E.take k).flatMap fun t => [t.K, t.V]) ∧ Below w.heap.size w w'

set_option maxHeartbeats 3200000 in
theorem fnumbersOf_any (f : Fr) (a : Option Addr) (cap : Nat) (w : World) (hE : RowT w a f.E) (hl : f.E.length ≤ 1000) :
    Calls Tryz.prog 134 #[.agg #[.int .i64 f.K, .int .i64 f.R, .int .i64 f.S, .int .i64 f.P.K, .int .i64 f.P.V, .slice a f.E.length cap]] w (OwnRet (numsF f) w) := by
  have HF := Lib.hid (show numsF f = [f.K, f.R, f.S, f.P.K, f.P.V] ++ f.E.flatMap fun t => [t.K, t.V] from rfl)
  have hB0 : Below w.heap.size w (w.alloc (.cells #[.int .i64 f.K, .int .i64 f.R, .int .i64 f.S, .int .i64 f.P.K, .int .i64 f.P.V, .slice a f.E.length cap] 32)) := alloc_below w _
  have hO := OwnI.lit (w.alloc (.cells #[.int .i64 f.K, .int .i64 f.R, .int .i64 f.S, .int .i64 f.P.K, .int .i64 f.P.V, .slice a f.E.length cap] 32)) [f.K, f.R, f.S, f.P.K, f.P.V] w.heap.size hB0.size (by simp)
  have hB1 := hB0.alloc hB0.size (.cells ([f.K, f.R, f.S, f.P.K, f.P.V].map (Value.int .i64)).toArray 3)
  go_enter Tryz.func134, Tryz.ntmps134
  go_wp2
  go_loopw [3, 5, 22] (fun v _ i w' => NumsAt f w v i w') (fun _ _ i _ => f.E.length - (intOf i).toNat)
  case atStart => exact ⟨0, Nat.zero_le _, rfl, by simpa using hO, hB1⟩
  case round =>
    clear hO hB1 hB0
    obtain ⟨k, hk, rfl, hown, hB⟩ := hrel
    by_cases hlt : k < f.E.length
    · have d1 : decide (k < f.E.length) = true := by simpa using hlt
      obtain ⟨b, off, rfl, hbl, c1, c2, _, _⟩ := (hE.later hB).get k hlt
      have HS := Lib.hid (pairs_take f.E k hlt)
      have hi1 := (hE.2.1 _ (List.getElem_mem hlt))
      have hll : ([f.K, f.R, f.S, f.P.K, f.P.V] ++ (f.E.take k).flatMap fun t => [t.K, t.V]).length ≤ 3000 := by rw [List.length_append, pairs_len, List.length_take]; simp; omega
      have HS2 := Lib.hid (show [f.K, f.R, f.S, f.P.K, f.P.V] ++ ((f.E.take (k + 1)).flatMap fun t => [t.K, t.V]) = ([f.K, f.R, f.S, f.P.K, f.P.V] ++ ((f.E.take k).flatMap fun t => [t.K, t.V])) ++ [f.E[k].K, f.E[k].V] by rw [HS.out, List.append_assoc])
      clear HS
      generalize f.E[k] = t at *
      generalize [f.K, f.R, f.S, f.P.K, f.P.V] ++ ((f.E.take k).flatMap fun t => [t.K, t.V]) = ZS at *
      obtain ⟨av, cv, rfl⟩ := hown.form
      have hol := hown.lt
      have hs := hB.size
      have hrow := Row.made (wr.alloc (.cells #[.int .i64 t.K, .int .i64 t.V] 29)) [t.K, t.V] 3 (by simp) (by intro z hz; simp at hz; rcases hz with rfl | rfl; exact hi1.1; exact hi1.2)
      have ho2 := (hown.later (alloc_below wr (.cells #[.int .i64 t.K, .int .i64 t.V] 29))).later (alloc_below _ (.cells #[.int .i64 t.K, .int .i64 t.V] 3))
      have hB2 := (hB.alloc hs (.cells #[.int .i64 t.K, .int .i64 t.V] 29)).alloc (by simp; omega) (.cells #[.int .i64 t.K, .int .i64 t.V] 3)
      go_wp2_with (at_builtin; refine wpList_appR _ rfl (.tmp 26) (.tmp 31) rfl w.heap.size (.slice av ZS.length cv) ZS (by simp [Act.eval]) ho2 (some ⟨wr.heap.size + 1, 0, none⟩) [t.K, t.V] 2 (by simp [Act.eval]) (by simpa using hrow) (by omega) (by simp) (by simp; omega) ?_)
      intro v' w2 ho3 hg
      obtain ⟨av2, cv2, rfl⟩ := ho3.form
      go_wp2
      go_roundw
      case rel => exact ⟨k + 1, by omega, by go_num, by rw [HS2.out]; simpa using ho3, below_grown hB2 (by simp; omega) hg (fun g e => (hol g e).1)⟩
      case measure => simp [intOf]; omega
    · have d1 : decide (k < f.E.length) = false := by simpa using hlt
      have HE := Lib.hid (show f.E.take k = f.E from List.take_of_length_le (by omega))
      rw [HE.out, ← HF.out] at hown
      obtain ⟨av, cv, rfl⟩ := hown.form
      go_wp2
      go_ret
      exact ⟨_, rfl, hown, hB⟩

end Go.Proofs.YthhmedlefahccaaGreatDoor
/-
  Contracts of package frame, fourth part: Text.
-/
namespace Go.Proofs.YthhmedlefahccaaGreatDoor
open Go.RowKit Plait
set_option maxRecDepth 100000
set_option linter.unusedVariables false

theorem OwnI.weak {base base' : Nat} {w : World} {v : Value} {zs : List Int} (h : OwnI base w v zs) (hb : base' ≤ base) : OwnI base' w v zs := by
  refine ⟨h.1, ?_⟩
  rcases h.2 with h | ⟨g, cap, cur, h1, h2, h3⟩
  · exact .inl h
  · exact .inr ⟨g, cap, cur, h1, by omega, h3⟩

/-- The loop of Text. -/
def WriteAt (zs : List Int) (v : Value) (b : Nat) (w : World) (i : Value) (w' : World) : Prop :=
  ∃ k : Nat, k ≤ zs.length ∧ i = .int .i64 k ∧ Bd b b (wrN zs k) w' ∧ OwnI w.heap.size w' v zs ∧ Below w.heap.size w w' ∧ b ≤ w'.heap.size

theorem numsF_in (f : Fr) (h1 : inI f.K) (h2 : inI f.R) (h3 : inI f.S) (h4 : inI f.P.K) (h5 : inI f.P.V) (hE : ∀ t ∈ f.E, inI t.K ∧ inI t.V) : ∀ z ∈ numsF f, -9223372036854775808 ≤ z ∧ z ≤ 9223372036854775807 := by
  intro z hz
  unfold numsF at hz
  rcases List.mem_append.1 hz with h | h
  · simp at h
    rcases h with rfl | rfl | rfl | rfl | rfl
    · exact h1
    · exact h2
    · exact h3
    · exact h4
    · exact h5
  · obtain ⟨t, ht, h⟩ := List.mem_flatMap.1 h
    simp at h
    rcases h with rfl | rfl
    · exact (hE t ht).1
    · exact (hE t ht).2

set_option maxHeartbeats 3200000 in
theorem fText_any (c : Cf) (ca : Option Addr) (cc : Nat) (f : Fr) (a : Option Addr) (cap : Nat) (w : World) (hE : RowT w a f.E) (hl : f.E.length ≤ 1000) (h1 : inI f.K) (h2 : inI f.R) (h3 : inI f.S) (h4 : inI f.P.K) (h5 : inI f.P.V) :
    Calls Tryz.prog 125 #[.agg #[.int .i64 c.N, .int .i64 c.Pi, .int .i64 c.E, .int .i64 c.G, .int .i64 c.F, .slice ca c.P.length cc], .agg #[.int .i64 f.K, .int .i64 f.R, .int .i64 f.S, .int .i64 f.P.K, .int .i64 f.P.V, .slice a f.E.length cap]] w fun e w' => e = .returned (.string ⟨(textF f).toArray⟩) ∧ Below w.heap.size w w' := by
  have hin := numsF_in f h1 h2 h3 h4 h5 hE.2.1
  have hlen : (numsF f).length ≤ 2005 := by rw [numsF_len]; omega
  have HT := Lib.hid (show wrapL (wrN (numsF f) (numsF f).length) = textF f by rw [wrN_all]; rfl)
  have HA := Lib.hid (show allBits (wrN (numsF f) (numsF f).length) by rw [wrN_all]; exact frBits_all f)
  have HN := Lib.hid (fun W (h : RowT W a f.E) => fnumbersOf_any f a cap W h hl)
  generalize numsF f = zs at *
  have hB0 : Below w.heap.size w ((w.alloc (.cells #[.int .i64 c.N, .int .i64 c.Pi, .int .i64 c.E, .int .i64 c.G, .int .i64 c.F, .slice ca c.P.length cc] 24)).alloc (.cells #[.int .i64 f.K, .int .i64 f.R, .int .i64 f.S, .int .i64 f.P.K, .int .i64 f.P.V, .slice a f.E.length cap] 32)) := (alloc_below w _).alloc (by simp) _
  have hK0 : Blk ((w.alloc (.cells #[.int .i64 c.N, .int .i64 c.Pi, .int .i64 c.E, .int .i64 c.G, .int .i64 c.F, .slice ca c.P.length cc] 24)).alloc (.cells #[.int .i64 f.K, .int .i64 f.R, .int .i64 f.S, .int .i64 f.P.K, .int .i64 f.P.V, .slice a f.E.length cap] 32)) (w.heap.size + 1) 32 (frBox f a cap) := Blk.newAt _ _ (by simp)
  go_enter Tryz.func125, Tryz.ntmps125
  go_upto_region 1 with fail
  generalize (w.alloc (.cells #[.int .i64 c.N, .int .i64 c.Pi, .int .i64 c.E, .int .i64 c.G, .int .i64 c.F, .slice ca c.P.length cc] 24)).alloc (.cells #[.int .i64 f.K, .int .i64 f.R, .int .i64 f.S, .int .i64 f.P.K, .int .i64 f.P.V, .slice a f.E.length cap] 32) = wb at *
  have hbd := Bd.new wb
  have hB := hB0.alloc hB0.size (.cells #[.pointer none, .slice none 0 0] 169)
  have hK := hK0.alloc (.cells #[.pointer none, .slice none 0 0] 169)
  have hbs : wb.heap.size ≤ (wb.alloc (.cells #[.pointer none, .slice none 0 0] 169)).heap.size := by simp
  have hQ := hK.at
  unfold frBox at hQ
  go_wp2_with fail
  refine (HN.out _ (hE.later hB)).mono ?_
  rintro e wn ⟨v, rfl, hown, hb⟩
  replace hown : OwnI w.heap.size wn v zs := OwnI.weak hown hB.size
  replace hbd := hbd.later hb
  replace hB := hB.trans (hb.mono hB.size)
  have hbn : wb.heap.size ≤ wn.heap.size := Nat.le_trans hbs hb.size
  have hwb := hB0.size
  clear hQ hK hK0 hB0 hbs hb HN
  obtain ⟨av, cv, rfl⟩ := hown.form
  generalize wb.heap.size = b at *
  go_wp2
  go_loopw [6, 7, 11] (fun _ _ i w' => WriteAt zs (.slice av zs.length cv) b w i w') (fun _ _ i _ => zs.length - (intOf i).toNat)
  case atStart => exact ⟨0, Nat.zero_le _, rfl, hbd, hown, hB, hbn⟩
  case round =>
    clear hbd hown hB hbn
    obtain ⟨k, hk, rfl, hbd, hown, hB, hbn⟩ := hrel
    by_cases hlt : k < zs.length
    · have d1 : decide (k < zs.length) = true := by simpa using hlt
      obtain ⟨rb, off, hav, hbl, c1, _, _⟩ := (hown.row (by omega) hin).get k hlt
      have hzk : zs.getD k 0 = zs[k] := by rw [List.getD_eq_getElem?_getD, List.getElem?_eq_getElem hlt]; rfl
      have HS := Lib.hid (show wrN zs (k + 1) = wrN zs k ++ bitsI zs[k] (szN k : Nat) by
        have hs := szN_range k
        rw [wrN_succ, hzk, bitsI_of zs[k] (szN k) hs.1 (by omega)])
      have hwl := wrN_len zs k
      have hbi := bitsI_len zs[k] (szN k : Nat)
      have HC := Lib.hid (fun W => fsizeAt_any k W (by omega))
      have HD := Lib.hid (fun W => bits_any zs[k] (szN k : Nat) W)
      clear hzk
      subst hav
      generalize wrN zs k = X at *
      generalize bitsI zs[k] (szN k : Nat) = Y at *
      generalize szN k = sz at *
      generalize zs[k] = z at *
      go_wp2_with fail
      refine (HC.out _).mono ?_
      rintro e wl ⟨rfl, rfl⟩
      go_wp2_with fail
      refine (HD.out _).mono ?_
      rintro e wm ⟨rfl, hb⟩
      replace hbd := hbd.later hb
      replace hown := hown.later hb
      replace hB := hB.trans (hb.mono hB.size)
      have hbm : b ≤ wm.heap.size := Nat.le_trans hbn hb.size
      clear hb c1
      have HW := Lib.hid (bwrite_any b b X Y wm hbd (by omega) hbm)
      go_wp2_with fail
      refine HW.out.mono ?_
      rintro e wo ⟨⟨n, rfl⟩, hbd2, hb, hkp⟩
      go_wp2
      go_roundw
      case rel => exact ⟨k + 1, by omega, by go_num, by rw [HS.out]; exact hbd2, hown.kp hkp hbd.box, hB.trans (hb.mono hwb), Nat.le_trans hbm hb.size⟩
      case measure => simp [intOf]; omega
    · have d1 : decide (k < zs.length) = false := by simpa using hlt
      obtain rfl : k = zs.length := by omega
      have hwl := wrN_len zs zs.length
      have hwl2 : (wrN zs zs.length).length ≤ 1048000 := by omega
      have HS := Lib.hid (bstring_any b b (wrN zs zs.length) wr hbd hbn)
      have HW := Lib.hid (fun W => cwrap_any (wrN zs zs.length) W hwl2 HA.out)
      rw [HT.out] at HW
      clear hwl hwl2 HA HT
      generalize wrN zs zs.length = X at *
      go_wp2_with fail
      refine HS.out.mono ?_
      rintro e wm ⟨rfl, hb⟩
      replace hB := hB.trans (hb.mono hwb)
      go_wp2_with fail
      refine (HW.out _).mono ?_
      rintro e wo ⟨rfl, hb2⟩
      go_wp2
      go_ret
      exact ⟨rfl, hB.trans (hb2.mono hB.size)⟩

end Go.Proofs.YthhmedlefahccaaGreatDoor
/-
  Contracts of package frame, fifth part: numbers out of bits, items out of numbers.
-/
namespace Go.Proofs.YthhmedlefahccaaGreatDoor
open Go.RowKit Plait
set_option maxRecDepth 100000
set_option linter.unusedVariables false

theorem fvalueOf_any (c : UInt8) (w : World) :
    Calls Tryz.prog 154 #[.int .i32 (c.toNat : Nat)] w fun e w' => e = .returned (.int .i64 ((c.toNat : Int) - 48)) ∧ w = w' := by
  have hc : c.toNat < 256 := c.toNat_lt
  go_enter Tryz.func154, Tryz.ntmps154
  go_wp2
  go_ret
  exact ⟨rfl, rfl⟩

theorem or_bit2 (N : Nat) (c : UInt8) (hN : N < 2305843009213693952) (hc : c.toNat = 48 ∨ c.toNat = 49) : bits .or .i64 ((N : Int) * 2) ((c.toNat : Int) - 48) = ((2 * N + if c = 49 then 1 else 0 : Nat) : Int) := by
  rw [← or_bit N c hN hc]
  congr 1
  rcases hc with h | h <;> rw [h] <;> simp [wrap64, wrap32]

theorem next_at (l : List UInt8) (w : World) (k pos : Nat) (hk : w.heap[k]? = some (.stringIter ⟨l.toArray⟩ pos)) (hlt : pos < l.length) (ha : l[pos].toNat < 128) : ∀ ty, (Instr.next (.pointer (some ⟨k, 0, none⟩)) true ty).run Tryz.prog w = .ok (.tuple #[.bool true, .int .i64 pos, .int .i32 (l[pos].toNat : Nat)]) (w.iterAt k ⟨l.toArray⟩ (pos + 1)) := fun ty => by
  have hlt' : pos < (⟨l.toArray⟩ : ByteArray).size := by rw [size_mk]; exact hlt
  rw [Lib.run_next_ascii_at w k ⟨l.toArray⟩ pos ty hk hlt' (by rw [get_mk l pos hlt']; exact ha), get_mk l pos hlt']
theorem next_at_end (l : List UInt8) (w : World) (k pos : Nat) (hk : w.heap[k]? = some (.stringIter ⟨l.toArray⟩ pos)) (hlt : ¬ pos < l.length) : ∀ ty, (Instr.next (.pointer (some ⟨k, 0, none⟩)) true ty).run Tryz.prog w = .ok (.tuple #[.bool false]) w := fun ty =>
  Lib.run_next_end_at w k ⟨l.toArray⟩ pos ty hk (by rw [size_mk]; exact hlt)

theorem off_ge (q : Nat) : 2 * q ≤ offN q := by
  unfold offN
  rcases (by omega : q = 0 ∨ q = 1 ∨ q = 2 ∨ 3 ≤ q) with rfl | rfl | rfl | h
  · simp
  · simp
  · simp
  · rw [if_neg (by omega), if_neg (by omega), if_neg (by omega)]; omega

theorem OwnI.iterAt {base : Nat} {w : World} {v : Value} {zs : List Int} (h : OwnI base w v zs) {k : Nat} (hk : k < base) (s : ByteArray) (pos : Nat) : OwnI base (w.iterAt k s pos) v zs := by
  refine ⟨h.1, ?_⟩
  rcases h.2 with h | ⟨g, cap, cur, h1, h2, h3, h4⟩
  · exact .inl h
  · exact .inr ⟨g, cap, cur, h1, h2, by rw [Lib.iterAt_other _ _ _ _ _ (by omega)]; exact h3, h4⟩

/-- The loop of readNumbers. -/
def ReadsAt (b : List UInt8) (w : World) (v n m : Value) (w' : World) : Prop :=
  ∃ pos q M : Nat, pos ≤ b.length ∧ offN q ≤ pos ∧ pos + (M + 1) = offN (q + 1) ∧ w'.heap[w.heap.size]? = some (.stringIter ⟨b.toArray⟩ pos) ∧ n = .int .i64 (numV ((b.drop (offN q)).take (pos - offN q)) : Nat) ∧ m = .int .i64 ((M : Int) + 1) ∧
    OwnI (w.heap.size + 1) w' v (numsOf b q) ∧ Below w.heap.size w w' ∧ w.heap.size < w'.heap.size

theorem iterPos_of {w : World} {k : Nat} {s : ByteArray} {pos : Nat} (h : w.heap[k]? = some (.stringIter s pos)) : w.iterPos k = pos := by
  unfold World.iterPos
  rw [h]

theorem numV_small (b : List UInt8) (q pos : Nat) (h1 : offN q ≤ pos) (h2 : pos < offN (q + 1)) : numV ((b.drop (offN q)).take (pos - offN q)) < 65536 := by
  have h3 := numV_lt ((b.drop (offN q)).take (pos - offN q))
  have h4 := (szN_range q).2
  rw [offN_succ] at h2
  have h5 : ((b.drop (offN q)).take (pos - offN q)).length ≤ 16 := by rw [List.length_take]; omega
  have h6 : (2 : Nat) ^ ((b.drop (offN q)).take (pos - offN q)).length ≤ 2 ^ 16 := Nat.pow_le_pow_right (by decide) h5
  omega

set_option maxHeartbeats 3200000 in
set_option maxRecDepth 100000 in
theorem freadNumbers_any (b : List UInt8) (w : World) (hall : allBits b) (hs : b.length ≤ 1048576) :
    Calls Tryz.prog 144 #[.string ⟨b.toArray⟩] w fun e w' => ∃ m, offN m ≤ b.length ∧ b.length < offN (m + 1) ∧ OwnRet (numsOf b m) w e w' := by
  have HC0 := Lib.hid (fun W => fsizeAt_any 0 W (by omega))
  go_enter Tryz.func144, Tryz.ntmps144
  go_wp2_with fail
  refine (HC0.out _).mono ?_
  rintro e wl ⟨rfl, rfl⟩
  go_wp2
  go_loopw [3, 4, 5, 7] (fun v n m _ w' => ReadsAt b w v n m w') (fun _ _ _ _ w' => b.length - w'.iterPos w.heap.size)
  case atStart => exact ⟨0, 0, 1, Nat.zero_le _, by decide, by decide, heap_alloc_new w _, rfl, rfl, OwnI.nil _ _, alloc_below w _, by show w.heap.size < (w.alloc _).heap.size; simp⟩
  case round =>
    obtain ⟨pos, q, M, hp, ho1, ho2, hit, rfl, rfl, hown, hB, hsz⟩ := hrel
    by_cases hlt : pos < b.length
    · have hbit : b[pos].toNat = 48 ∨ b[pos].toNat = 49 := (bit_toNat _).1 (hall _ (List.getElem_mem hlt))
      have hnx := next_at b wr w.heap.size pos hit hlt (by omega)
      have hN := numV_small b q pos ho1 (by omega)
      have HT := Lib.hid (show numV ((b.drop (offN q)).take (pos + 1 - offN q)) = 2 * numV ((b.drop (offN q)).take (pos - offN q)) + if b[pos] = 49 then 1 else 0 by
        have h := numV_step b (offN q) (pos - offN q) (by omega)
        rw [show pos - offN q + 1 = pos + 1 - offN q by omega] at h
        rw [h]
        congr 3
        simp [show offN q + (pos - offN q) = pos by omega])
      generalize hNe : numV ((b.drop (offN q)).take (pos - offN q)) = N at *
      have HO := Lib.hid (or_bit2 N b[pos] (by omega) hbit)
      have HV := Lib.hid (fun W => fvalueOf_any b[pos] W)
      have HI := Lib.iterAt_heap wr w.heap.size ⟨b.toArray⟩ pos (pos + 1) hit
      have hBi := Lib.below_iterAt hB (Nat.le_refl w.heap.size) ⟨b.toArray⟩ (pos + 1)
      have hoi := hown.iterAt (k := w.heap.size) (by omega) ⟨b.toArray⟩ (pos + 1)
      have hsi : w.heap.size < (wr.iterAt w.heap.size ⟨b.toArray⟩ (pos + 1)).heap.size := by rw [Lib.iterAt_size]; exact hsz
      have hip := Lib.hid (iterPos_of hit)
      have hn2 : (if b[pos] = 49 then 1 else 0) ≤ 1 := by split <;> omega
      clear hNe hB hown hbit hit hsz
      generalize b[pos].toNat = ch at *
      generalize (if b[pos] = 49 then 1 else 0) = bt at *
      obtain ⟨Z, hZ⟩ : ∃ Z, 2 * N + bt = Z := ⟨_, rfl⟩
      rw [hZ] at HT HO
      have hZ1 : Z < 131072 := by omega
      clear hZ hn2
      go_wp2_with fail
      refine (HV.out _).mono ?_
      rintro e wl ⟨rfl, rfl⟩
      generalize wr.iterAt w.heap.size ⟨b.toArray⟩ (pos + 1) = wi at *
      clear hnx
      have hor := HO.out
      have hM : M ≤ 16 := by have := offN_succ q; have := (szN_range q).2; omega
      by_cases hm : M = 0
      · have d1 : ((M : Int) == 0) = true := by simp; omega
        have hq : pos + 1 = offN (q + 1) := by omega
        have HS := Lib.hid (show numsOf b (q + 1) = numsOf b q ++ [(Z : Int)] by
          rw [numsOf_succ, ← HT.out]
          unfold numAt
          rw [show szN q = pos + 1 - offN q by have := offN_succ q; omega])
        have hol := hoi.lt
        have hql := off_ge q
        have hll : (numsOf b q).length = q := numsOf_len b q
        have hll2 : (numsOf b q).length ≤ 1000000 := by rw [hll]; omega
        have HLL := Lib.hid hll
        clear hll
        have HC := Lib.hid (fun W => fsizeAt_any (q + 1) W (by omega))
        generalize numsOf b q = ZS at *
        obtain ⟨av, cv, rfl⟩ := hoi.form
        go_wp2_with (at_builtin; refine wpList_app1 _ rfl _ _ rfl (w.heap.size + 1) (.slice av ZS.length cv) ZS rfl (hoi.later (alloc_below _ _)) wi.heap.size 1 (Z : Int) rfl (heap_alloc_new _ _) hll2 (by simp; omega) ?_; intro g cap' w2 h1' h2' h3' h4')
        rw [show ((ZS.length : Int) + 1) = ((q + 1 : Nat) : Int) by rw [HLL.out]; rfl]
        refine (HC.out _).mono ?_
        rintro e wl ⟨rfl, rfl⟩
        have hs2 := offN_succ (q + 1)
        have hr2 := (szN_range (q + 1)).1
        have hi2 : w2.heap[w.heap.size]? = some (.stringIter ⟨b.toArray⟩ (pos + 1)) := by
          rw [h2'.block w.heap.size (by simp; omega) (fun e => by have := (hol _ e.symm).1; omega)]
          exact (Below.heap_alloc wi _ _ hsi).trans HI
        go_wp2
        go_roundw
        case rel =>
          refine ⟨pos + 1, q + 1, szN (q + 1) - 1, by omega, by omega, by omega, hi2, ?_, by congr 1; omega, by rw [HS.out]; exact h1', ?_, ?_⟩
          · rw [show pos + 1 - offN (q + 1) = 0 by omega]; rfl
          · exact below_grown (hBi.alloc (by omega) _) (by simp; omega) h2' (fun g e => by have := (hol g e).1; omega)
          · have := h2'.size; simp at this; omega
        case measure => rw [iterPos_of hi2, hip.out]; omega
      · have d1 : ((M : Int) == 0) = false := by simp; omega
        go_wp2
        go_roundw
        case rel => exact ⟨pos + 1, q, M - 1, by omega, by omega, by omega, HI, by rw [HT.out], by congr 1; omega, hoi, hBi, hsi⟩
        case measure => rw [iterPos_of HI, hip.out]; omega
    · have hnx := next_at_end b wr w.heap.size pos hit hlt
      obtain rfl : pos = b.length := by omega
      clear hit
      obtain ⟨av, cv, rfl⟩ := hown.form
      go_wp2
      go_ret
      exact ⟨q, ho1, by omega, _, rfl, hown.weak (by omega), hB⟩

end Go.Proofs.YthhmedlefahccaaGreatDoor
