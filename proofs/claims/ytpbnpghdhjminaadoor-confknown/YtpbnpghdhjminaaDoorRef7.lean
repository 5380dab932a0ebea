/-
  Contracts of plaitingref3, third part: a slot's voters.
-/
import Derived.Test.YtpbnpghdhjminaaDoorRef6
namespace Go.Proofs.YtpbnpghdhjminaaDoor
open Go.RowKit Plait
set_option linter.unusedVariables false

/-- The loop that gathers the voters: wn is the world at its start. -/
def RVoteAt (c : Cf) (s : Int) (wn : World) (v i : Value) (w' : World) : Prop :=
  ∃ k : Nat, (k : Int) ≤ c.N ∧ i = .int .i64 k ∧ Below wn.heap.size wn w' ∧ OwnI wn.heap.size w' v (votersTo c s k)

set_option maxHeartbeats 1600000 in
theorem rvoters_any (c : Cf) (a : Option Addr) (cap : Nat) (s : Int) (w : World) (hc : c.Ok) (hs : inI s) (hrow : Row w a c.P) :
    Calls Tryd.prog 19 #[.agg #[.int .i64 c.N, .int .i64 c.Pi, .int .i64 c.E, .int .i64 c.G, .int .i64 c.F, .slice a c.P.length cap], .int .i64 s] w (RowRet (voters c s) w) := by
  have h1 := hc.n6; have h2 := hc.n12; have h3 := hc.len
  go_enter Tryd.func19, Tryd.ntmps19
  go_wp2_with fail
  refine (rowners_any c a cap s _ hc hs (hrow.alloc _)).mono ?_
  rintro e wn ⟨ao, co, rfl, hro, hfo, hb⟩
  obtain ⟨hB, hK, hZ⟩ := boxed hb
  have hQ := hK.at
  clear hb
  go_wp2
  clear hQ
  go_loopw [5, 7] (fun v i w' => RVoteAt c s wn v i w') (fun _ i _ => 12 - (intOf i).toNat)
  case atStart => exact ⟨0, by omega, rfl, Below.refl _ _, OwnI.nil _ _⟩
  case round =>
    obtain ⟨k, hk, rfl, hb, hown⟩ := hrel
    have hQ := (hK.later hb).at
    have hrr := hro.later hb
    by_cases hlt : (k : Int) < c.N
    · have d1 : decide ((k : Int) < c.N) = true := by simpa using hlt
      have HS := Lib.hid (votersTo_succ c s k)
      have HI := Lib.hid (show inB (owners c s) (k : Int) = (owners c s).contains (k : Int) from rfl)
      obtain ⟨av, cv, rfl⟩ := hown.form
      cases hcon : inB (owners c s) (k : Int)
      · have HC := Lib.hid hcon
        clear hcon
        have hvl := votersTo_len c s k
        have hol := hown.lt
        have hsz := hb.size
        go_wp2_with fail
        refine (rin_any ao (owners c s) co (k : Int) _ hrr).mono ?_
        rintro e wl ⟨rfl, rfl⟩
        rw [HC.out]
        go_wp2_with (at_builtin; refine wpList_app1 _ rfl _ _ rfl wn.heap.size (.slice av (votersTo c s k).length cv) (votersTo c s k) rfl (hown.later (alloc_below _ _)) wr.heap.size 1 (k : Int) rfl (heap_alloc_new _ _) (by omega) (by simp; omega) ?_; intro g cap' w2 h1' h2' h3' h4')
        have hG : ∀ g, (Value.slice av (votersTo c s k).length cv).ownBlock = some g → wn.heap.size ≤ g := fun g hg => (hol g hg).1
        go_roundw
        case rel =>
          refine ⟨k + 1, by omega, by go_num, below_grown (hb.alloc hb.size _) (by simp; omega) h2' hG, ?_⟩
          rw [HS.out, ← HI.out, if_neg (by rw [HC.out]; simp)]
          exact h1'
        case measure => simp [intOf]; omega
      · have HC := Lib.hid hcon
        clear hcon
        go_wp2_with fail
        refine (rin_any ao (owners c s) co (k : Int) _ hrr).mono ?_
        rintro e wl ⟨rfl, rfl⟩
        rw [HC.out]
        go_wp2
        go_roundw
        case rel => exact ⟨k + 1, by omega, by go_num, hb, by rw [HS.out, ← HI.out, if_pos HC.out]; exact hown⟩
        case measure => simp [intOf]; omega
    · have d1 : decide ((k : Int) < c.N) = false := by simpa using hlt
      have HV := Lib.hid (show votersTo c s k = voters c s by unfold voters; congr 1; omega)
      obtain ⟨av, cv, rfl⟩ := hown.form
      rw [HV.out] at hown
      go_wp2
      go_ret
      refine ⟨av, cv, by rw [HV.out]; rfl, hown.row ?_ ?_, ?_, hB.trans (hb.mono hB.size)⟩
      · have := votersTo_len c s c.N.toNat
        unfold voters
        omega
      · intro z hz
        have := votersTo_in c s c.N.toNat z hz
        omega
      · intro x hx
        have := (hown.lt x.block (by rw [hx]; rfl)).1
        omega

end Go.Proofs.YtpbnpghdhjminaaDoor
