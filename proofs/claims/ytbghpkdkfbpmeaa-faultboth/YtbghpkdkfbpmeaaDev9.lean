/-
  Contracts of package frame, first part: whether a frame may be; nothing that was in memory is changed.
-/
import Derived.Test.YtbghpkdkfbpmeaaLaw51
import Derived.Test.YtbghpkdkfbpmeaaDev3
namespace Go.Proofs.Ytbghpkdkfbpmeaa
open Go.RowKit Plait
set_option maxRecDepth 100000
set_option linter.unusedVariables false

theorem fisOwn_any (c : Cf) (ca : Option Addr) (cc : Nat) (s : Int) (w : World) :
    Calls Try.prog 78 #[.agg #[.int .i64 c.N, .int .i64 c.Pi, .int .i64 c.E, .int .i64 c.G, .int .i64 c.F, .slice ca c.P.length cc], .int .i64 s] w fun e w' => e = .returned (.bool (decide (s < c.N))) ∧ Below w.heap.size w w' := by
  go_enter Try.func78, Try.ntmps78
  go_wp2
  go_ret
  exact ⟨rfl, alloc_below _ _⟩

theorem froundHolds_any (r : Int) (w : World) :
    Calls Try.prog 80 #[.int .i64 r] w fun e w' => e = .returned (.bool (decide (0 ≤ r) && decide (r ≤ 65535))) ∧ w = w' := by
  cases h : decide (0 ≤ r)
  · go_enter Try.func80, Try.ntmps80
    go_wp2
    go_ret
    exact ⟨rfl, rfl⟩
  · go_enter Try.func80, Try.ntmps80
    go_wp2
    go_ret
    exact ⟨ret_bool (by simp), rfl⟩

theorem fslotHolds_any (c : Cf) (ca : Option Addr) (cc : Nat) (s : Int) (w : World) (hc : c.Ok) :
    Calls Try.prog 79 #[.agg #[.int .i64 c.N, .int .i64 c.Pi, .int .i64 c.E, .int .i64 c.G, .int .i64 c.F, .slice ca c.P.length cc], .int .i64 s] w fun e w' => e = .returned (.bool (decide (0 ≤ s) && decide (s < slotsI c))) ∧ Below w.heap.size w w' := by
  cases h : decide (0 ≤ s)
  · go_enter Try.func79, Try.ntmps79
    go_wp2
    go_ret
    exact ⟨rfl, alloc_below _ _⟩
  · go_enter Try.func79, Try.ntmps79
    go_wp2_with fail
    refine (cslots_any c ca cc _ hc).mono ?_
    rintro e wn ⟨rfl, hb⟩
    obtain ⟨hB, hK, hZ⟩ := boxed hb
    have hQ := hK.at
    clear hb
    go_wp2
    go_ret
    exact ⟨ret_bool (by simp), hB⟩

set_option maxHeartbeats 800000 in
theorem fisNoItem_any (i : It) (w : World) :
    Calls Try.prog 84 #[.agg #[.int .i64 i.K, .int .i64 i.V]] w fun e w' => e = .returned (.bool (!itemB i false)) ∧ Below w.heap.size w w' := by
  by_cases k0 : i.K = 0
  · have HF := Lib.hid (show (!itemB i false) = (i.V != 0) by unfold itemB; rw [if_pos k0]; simp [bne])
    have c0 : (i.K == 0) = true := by simpa using k0
    clear k0
    go_enter Try.func84, Try.ntmps84
    go_wp2
    go_ret
    exact ⟨ret_bool HF.out.symm, alloc_below _ _⟩
  · have c0 : (i.K == 0) = false := by simpa using k0
    by_cases k1 : i.K = 1
    · have HF := Lib.hid (show (!itemB i false) = (i.V != 0) by unfold itemB; rw [if_neg k0, if_pos k1]; simp [bne])
      have c1 : (i.K == 1) = true := by simpa using k1
      clear k0 k1
      go_enter Try.func84, Try.ntmps84
      go_wp2
      go_ret
      exact ⟨ret_bool HF.out.symm, alloc_below _ _⟩
    · have c1 : (i.K == 1) = false := by simpa using k1
      by_cases k2 : i.K = 2
      · have HF := Lib.hid (show (!itemB i false) = (decide (i.V < 0) || decide (255 < i.V)) by
          unfold itemB
          rw [if_neg k0, if_neg k1, if_pos k2]
          by_cases h1 : i.V < 0
          · simp [h1]
          · by_cases h2 : 255 < i.V
            · simp [h1, h2]
            · simp [h1, h2]; omega)
        have c2 : (i.K == 2) = true := by simpa using k2
        clear k0 k1 k2
        cases hv : decide (i.V < 0)
        · rw [hv] at HF
          go_enter Try.func84, Try.ntmps84
          go_wp2
          go_ret
          exact ⟨ret_bool (by rw [HF.out]; simp), alloc_below _ _⟩
        · rw [hv] at HF
          go_enter Try.func84, Try.ntmps84
          go_wp2
          go_ret
          exact ⟨ret_bool (by rw [HF.out]; rfl), alloc_below _ _⟩
      · have HF := Lib.hid (show (!itemB i false) = true by unfold itemB; rw [if_neg k0, if_neg k1, if_neg k2]; rfl)
        have c2 : (i.K == 2) = false := by simpa using k2
        clear k0 k1 k2
        go_enter Try.func84, Try.ntmps84
        go_wp2
        go_ret
        exact ⟨ret_bool HF.out.symm, alloc_below _ _⟩

set_option maxHeartbeats 800000 in
theorem fkindHolds_any (c : Cf) (ca : Option Addr) (cc : Nat) (f : Fr) (a : Option Addr) (cap : Nat) (w : World) :
    Calls Try.prog 81 #[.agg #[.int .i64 c.N, .int .i64 c.Pi, .int .i64 c.E, .int .i64 c.G, .int .i64 c.F, .slice ca c.P.length cc], .agg #[.int .i64 f.K, .int .i64 f.R, .int .i64 f.S, .int .i64 f.P.K, .int .i64 f.P.V, .slice a f.E.length cap]] w fun e w' => e = .returned (.bool (!badK c f)) ∧ Below w.heap.size w w' := by
  have hB : Below w.heap.size w ((w.alloc (.cells #[.int .i64 c.N, .int .i64 c.Pi, .int .i64 c.E, .int .i64 c.G, .int .i64 c.F, .slice ca c.P.length cc] 24)).alloc (.cells #[.int .i64 f.K, .int .i64 f.R, .int .i64 f.S, .int .i64 f.P.K, .int .i64 f.P.V, .slice a f.E.length cap] 82)) := (alloc_below w _).alloc (by simp) _
  have own : f.K = 1 ∨ f.K = 2 → (!badK c f) = decide (f.S < c.N) := fun h => by
    unfold badK
    by_cases hs : f.S < c.N
    · have : ¬ c.N ≤ f.S := by omega
      rcases h with h | h <;> simp [h, hs]
    · have : c.N ≤ f.S := by omega
      rcases h with h | h <;> simp [h, hs, this]
  by_cases k1 : f.K = 1
  · have HF := Lib.hid (own (.inl k1))
    have c1 : (f.K == 1) = true := by simpa using k1
    clear k1 own
    go_enter Try.func81, Try.ntmps81
    go_wp2_with fail
    refine (fisOwn_any c ca cc f.S _).mono ?_
    rintro e wn ⟨rfl, hb⟩
    go_wp2
    go_ret
    exact ⟨ret_bool HF.out.symm, hB.trans (hb.mono hB.size)⟩
  · have c1 : (f.K == 1) = false := by simpa using k1
    by_cases k2 : f.K = 2
    · have HF := Lib.hid (own (.inr k2))
      have c2 : (f.K == 2) = true := by simpa using k2
      clear k1 k2 own
      go_enter Try.func81, Try.ntmps81
      go_wp2_with fail
      refine (fisOwn_any c ca cc f.S _).mono ?_
      rintro e wn ⟨rfl, hb⟩
      go_wp2
      go_ret
      exact ⟨ret_bool HF.out.symm, hB.trans (hb.mono hB.size)⟩
    · have c2 : (f.K == 2) = false := by simpa using k2
      by_cases k3 : f.K = 3
      · have HF := Lib.hid (show (!badK c f) = true by unfold badK; simp [k3])
        have c3 : (f.K == 3) = true := by simpa using k3
        clear k1 k2 k3 own
        go_enter Try.func81, Try.ntmps81
        go_wp2
        go_ret
        exact ⟨ret_bool HF.out.symm, hB⟩
      · have HF := Lib.hid (show (!badK c f) = false by
          unfold badK
          by_cases h1 : f.K < 1
          · simp [h1]
          · have : 3 < f.K := by omega
            simp [h1, this])
        have c3 : (f.K == 3) = false := by simpa using k3
        clear k1 k2 k3 own
        go_enter Try.func81, Try.ntmps81
        go_wp2
        go_ret
        exact ⟨ret_bool HF.out.symm, hB⟩

theorem pay_spec (f : Fr) : (!badP f) = (!(!itemB f.P false) && ((f.P.K != 0) == (f.K == 3))) := by
  unfold badP
  cases hK : (f.K == 3)
  · have : (f.K != 3) = true := by rw [bne, hK]; rfl
    rw [this]
    cases itemB f.P false <;> cases h0 : (f.P.K != 0) <;> rfl
  · have : (f.K != 3) = false := by rw [bne, hK]; rfl
    rw [this]
    unfold itemB
    by_cases k0 : f.P.K = 0
    · simp [k0]
    · simp [k0]

set_option maxHeartbeats 800000 in
theorem fpayHolds_any (f : Fr) (a : Option Addr) (cap : Nat) (w : World) :
    Calls Try.prog 82 #[.agg #[.int .i64 f.K, .int .i64 f.R, .int .i64 f.S, .int .i64 f.P.K, .int .i64 f.P.V, .slice a f.E.length cap]] w fun e w' => e = .returned (.bool (!badP f)) ∧ Below w.heap.size w w' := by
  have HF := Lib.hid (pay_spec f)
  have HC := Lib.hid (fun W => fisNoItem_any f.P W)
  cases hi : itemB f.P false
  · rw [hi] at HF HC
    go_enter Try.func82, Try.ntmps82
    go_wp2_with fail
    refine (HC.out _).mono ?_
    rintro e wn ⟨rfl, hb⟩
    obtain ⟨hB, hK, hZ⟩ := boxed hb
    have hQ := hK.at
    clear hb
    go_wp2
    go_ret
    exact ⟨ret_bool (by rw [HF.out]; rfl), hB⟩
  · rw [hi] at HF HC
    go_enter Try.func82, Try.ntmps82
    go_wp2_with fail
    refine (HC.out _).mono ?_
    rintro e wn ⟨rfl, hb⟩
    obtain ⟨hB, hK, hZ⟩ := boxed hb
    have hQ := hK.at
    clear hb
    go_wp2
    go_ret
    exact ⟨ret_bool (by rw [HF.out]; simp), hB⟩

set_option maxHeartbeats 800000 in
theorem fechoes_any (c : Cf) (ca : Option Addr) (cc : Nat) (f : Fr) (a : Option Addr) (cap : Nat) (w : World) (hc : c.Ok) :
    Calls Try.prog 67 #[.agg #[.int .i64 c.N, .int .i64 c.Pi, .int .i64 c.E, .int .i64 c.G, .int .i64 c.F, .slice ca c.P.length cc], .agg #[.int .i64 f.K, .int .i64 f.R, .int .i64 f.S, .int .i64 f.P.K, .int .i64 f.P.V, .slice a f.E.length cap]] w fun e w' => e = .returned (.int .i64 (echoI c f.K f.S)) ∧ Below w.heap.size w w' := by
  have hB : Below w.heap.size w ((w.alloc (.cells #[.int .i64 c.N, .int .i64 c.Pi, .int .i64 c.E, .int .i64 c.G, .int .i64 c.F, .slice ca c.P.length cc] 24)).alloc (.cells #[.int .i64 f.K, .int .i64 f.R, .int .i64 f.S, .int .i64 f.P.K, .int .i64 f.P.V, .slice a f.E.length cap] 82)) := (alloc_below w _).alloc (by simp) _
  have hC : Blk ((w.alloc (.cells #[.int .i64 c.N, .int .i64 c.Pi, .int .i64 c.E, .int .i64 c.G, .int .i64 c.F, .slice ca c.P.length cc] 24)).alloc (.cells #[.int .i64 f.K, .int .i64 f.R, .int .i64 f.S, .int .i64 f.P.K, .int .i64 f.P.V, .slice a f.E.length cap] 82)) w.heap.size 24 (confBox c ca cc) := (Blk.new w _ _).alloc _
  by_cases h3 : f.K = 3
  · have c3 : (f.K == 3) = true := by simpa using h3
    by_cases hs : f.S < c.N
    · have HF := Lib.hid (show echoI c f.K f.S = slotsI c by unfold echoI; rw [if_pos ⟨h3, hs⟩])
      have d1 : decide (f.S < c.N) = true := by simpa using hs
      clear h3 hs
      go_enter Try.func67, Try.ntmps67
      go_wp2_with fail
      refine (fisOwn_any c ca cc f.S _).mono ?_
      rintro e wn ⟨rfl, hb⟩
      rw [d1]
      replace hB := hB.trans (hb.mono hB.size)
      replace hC := hC.later hb
      have hQ := hC.at
      unfold confBox at hQ
      clear hb
      go_wp2_with fail
      refine (cslots_any c ca cc _ hc).mono ?_
      rintro e wm ⟨rfl, hb⟩
      go_wp2
      go_ret
      exact ⟨ret_int HF.out.symm, hB.trans (hb.mono hB.size)⟩
    · have HF := Lib.hid (show echoI c f.K f.S = 0 by unfold echoI; rw [if_neg (by simp [hs])])
      have d1 : decide (f.S < c.N) = false := by simpa using hs
      clear h3 hs
      go_enter Try.func67, Try.ntmps67
      go_wp2_with fail
      refine (fisOwn_any c ca cc f.S _).mono ?_
      rintro e wn ⟨rfl, hb⟩
      rw [d1]
      go_wp2
      go_ret
      exact ⟨ret_int HF.out.symm, hB.trans (hb.mono hB.size)⟩
  · have HF := Lib.hid (show echoI c f.K f.S = 0 by unfold echoI; rw [if_neg (by simp [h3])])
    have c3 : (f.K == 3) = false := by simpa using h3
    clear h3
    go_enter Try.func67, Try.ntmps67
    go_wp2
    go_ret
    exact ⟨ret_int HF.out.symm, hB⟩

/-- The first item that is none. -/
theorem no_take (E : List It) (k : Nat) (h : k < E.length) (ha : ∀ i ∈ E.take k, itemB i false = true) (e : itemB E[k] false = true) : ∀ i ∈ E.take (k + 1), itemB i false = true := by
  rw [List.take_succ_eq_append_getElem h]
  intro i hi
  rcases List.mem_append.1 hi with h | h
  · exact ha i h
  · simp at h; rw [h]; exact e

set_option maxHeartbeats 800000 in
theorem fcontains_any (a : Option Addr) (E : List It) (cap : Nat) (w : World) (hE : RowT w a E) :
    Calls Try.prog 83 #[.slice a E.length cap, .func (.func 84) #[] #[]] w fun e w' => e = .returned (.bool (!E.all (itemB · false))) ∧ Below w.heap.size w w' := by
  have HI := Lib.hid (show Calls Try.prog 88 #[.slice a E.length cap, .func (.func 84) #[] #[]] w fun e w' => (∃ r : Int, e = .returned (.int .i64 r) ∧ decide (0 ≤ r) = !E.all (itemB · false)) ∧ Below w.heap.size w w' from by
    have hlen := hE.1
    go_enter Try.func88, Try.ntmps88
    go_wp2
    go_loopw [5, 8] (fun _ i w' => ∃ k : Nat, k ≤ E.length ∧ i = .int .i64 k ∧ (E.take k).all (itemB · false) = true ∧ Below w.heap.size w w') (fun _ i _ => E.length - (intOf i).toNat)
    case atStart => exact ⟨0, Nat.zero_le _, rfl, by simp, Below.refl _ _⟩
    case round =>
      obtain ⟨k, hk, rfl, hno, hB⟩ := hrel
      have HN := Lib.hid hno
      clear hno
      by_cases hlt : k < E.length
      · have d1 : decide (k < E.length) = true := by simpa using hlt
        obtain ⟨b, off, rfl, hbl, c1, c2, _, _⟩ := (hE.later hB).get k hlt
        have HC := Lib.hid (fun W => fisNoItem_any E[k] W)
        cases hx : itemB E[k] false
        · have HF := Lib.hid (all_no E k hlt hx)
          rw [hx] at HC
          clear hx
          generalize E[k] = t at *
          go_wp2_with fail
          refine (HC.out _).mono ?_
          rintro e wn ⟨rfl, hb⟩
          go_wp2
          go_ret
          exact ⟨⟨_, rfl, by rw [HF.out]; simp⟩, hB.trans (hb.mono hB.size)⟩
        · have HS := Lib.hid (all_step E k hlt HN.out hx)
          rw [hx] at HC
          clear hx
          generalize E[k] = t at *
          go_wp2_with fail
          refine (HC.out _).mono ?_
          rintro e wn ⟨rfl, hb⟩
          go_wp2
          go_roundw
          case rel => exact ⟨k + 1, by omega, by go_num, HS.out, hB.trans (hb.mono hB.size)⟩
          case measure => simp [intOf]; omega
      · have d1 : decide (k < E.length) = false := by simpa using hlt
        have HF := Lib.hid (all_end E k hlt HN.out)
        go_wp2
        go_ret
        exact ⟨⟨_, rfl, by rw [HF.out]; rfl⟩, hB⟩)
  go_enter Try.func83, Try.ntmps83
  go_wp2_with fail
  refine HI.out.mono ?_
  rintro e wn ⟨⟨r, rfl, hr⟩, hb⟩
  have HR := Lib.hid hr
  clear hr
  go_wp2
  go_ret
  exact ⟨ret_bool HR.out, hb⟩

end Go.Proofs.Ytbghpkdkfbpmeaa
