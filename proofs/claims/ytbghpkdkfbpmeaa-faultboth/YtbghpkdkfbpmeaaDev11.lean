/-
  Contracts of package frame, third part: a frame's numbers, its text.
-/
import Derived.Test.YtbghpkdkfbpmeaaDev10
import Derived.Test.YtbghpkdkfbpmeaaBld
import Derived.Test.YtbghpkdkfbpmeaaFr8
namespace Go.Proofs.Ytbghpkdkfbpmeaa
open Go.RowKit Plait
set_option maxRecDepth 100000
set_option linter.unusedVariables false

set_option maxHeartbeats 800000 in
theorem fsizeAt_any (p : Nat) (w : World) (hp : p ≤ 1000000000) :
    Calls Try.prog 58 #[.int .i64 p] w fun e w' => e = .returned (.int .i64 (szN p)) ∧ w = w' := by
  by_cases h0 : p = 0
  · subst h0
    go_enter Try.func58, Try.ntmps58
    go_wp2
    go_ret
    exact ⟨rfl, rfl⟩
  by_cases h1 : p = 1
  · subst h1
    go_enter Try.func58, Try.ntmps58
    go_wp2
    go_ret
    exact ⟨rfl, rfl⟩
  by_cases h2 : p = 2
  · subst h2
    go_enter Try.func58, Try.ntmps58
    go_wp2
    go_ret
    exact ⟨rfl, rfl⟩
  · have d0 : ((p : Int) == 0) = false := by simp; omega
    have d1 : ((p : Int) == 1) = false := by simp; omega
    have d2 : ((p : Int) == 2) = false := by simp; omega
    have HF := Lib.hid (show szN p = if (p - 3) % 2 = 0 then 2 else 8 by unfold szN; rw [if_neg h0, if_neg h1, if_neg h2])
    obtain ⟨r, hr⟩ : ∃ r, (p - 3) % 2 = r := ⟨_, rfl⟩
    rw [hr] at HF
    have ht : ((p : Int) - 3).tmod 2 = (r : Int) := by rw [Int.tmod_eq_emod_of_nonneg (by omega)]; omega
    have he : ((p : Int) - 3) % 2 = (r : Int) := by omega
    have hw : IntKind.i64.wrap ((p : Int) - 3) = (p : Int) - 3 := wrap_in _ (by omega) (by omega)
    rcases (by omega : r = 0 ∨ r = 1) with rfl | rfl
    · clear hr h0 h1 h2
      go_enter Try.func58, Try.ntmps58
      go_wp2
      go_ret
      exact ⟨ret_int (by rw [HF.out]; rfl), rfl⟩
    · clear hr h0 h1 h2
      go_enter Try.func58, Try.ntmps58
      go_wp2
      go_ret
      exact ⟨ret_int (by rw [HF.out]; rfl), rfl⟩

/-- What a call answers that makes a row, of which the whole block is known. -/
def OwnRet (zs : List Int) (w : World) (e : Ending) (w' : World) : Prop := ∃ v, e = .returned v ∧ OwnI w.heap.size w' v zs ∧ Below w.heap.size w w'

/-- The loop of numbersOf. -/
def NumsAt (f : Fr) (w : World) (v i : Value) (w' : World) : Prop :=
  ∃ k : Nat, k ≤ f.E.length ∧ i = .int .i64 k ∧ OwnI w.heap.size w' v ([f.K, f.R, f.S, f.P.K, f.P.V] ++ (f.E.take k).flatMap fun t => [t.K, t.V]) ∧ Below w.heap.size w w'

set_option maxHeartbeats 3200000 in
theorem fnumbersOf_any (f : Fr) (a : Option Addr) (cap : Nat) (w : World) (hE : RowT w a f.E) (hl : f.E.length ≤ 1000) :
    Calls Try.prog 55 #[.agg #[.int .i64 f.K, .int .i64 f.R, .int .i64 f.S, .int .i64 f.P.K, .int .i64 f.P.V, .slice a f.E.length cap]] w (OwnRet (numsF f) w) := by
  have HF := Lib.hid (show numsF f = [f.K, f.R, f.S, f.P.K, f.P.V] ++ f.E.flatMap fun t => [t.K, t.V] from rfl)
  have hB0 : Below w.heap.size w (w.alloc (.cells #[.int .i64 f.K, .int .i64 f.R, .int .i64 f.S, .int .i64 f.P.K, .int .i64 f.P.V, .slice a f.E.length cap] 82)) := alloc_below w _
  have hO := OwnI.lit (w.alloc (.cells #[.int .i64 f.K, .int .i64 f.R, .int .i64 f.S, .int .i64 f.P.K, .int .i64 f.P.V, .slice a f.E.length cap] 82)) [f.K, f.R, f.S, f.P.K, f.P.V] w.heap.size hB0.size (by simp)
  have hB1 := hB0.alloc hB0.size (.cells ([f.K, f.R, f.S, f.P.K, f.P.V].map (Value.int .i64)).toArray 3)
  go_enter Try.func55, Try.ntmps55
  go_wp2
  go_loopw [3, 5, 22] (fun v _ i w' => NumsAt f w v i w') (fun _ _ i _ => f.E.length - (intOf i).toNat)
  case atStart => exact ⟨0, Nat.zero_le _, rfl, by simpa using hO, hB1⟩
  case round =>
    clear hO hB1 hB0
    obtain ⟨k, hk, rfl, hown, hB⟩ := hrel
    by_cases hlt : k < f.E.length
    · have d1 : decide (k < f.E.length) = true := by simpa using hlt
      obtain ⟨b, off, rfl, hbl, c1, c2, _, _⟩ := (hE.later hB).get k hlt
      have HS := Lib.hid (pairs_take f.E k hlt)
      have hi1 := (hE.2.1 _ (List.getElem_mem hlt))
      have hll : ([f.K, f.R, f.S, f.P.K, f.P.V] ++ (f.E.take k).flatMap fun t => [t.K, t.V]).length ≤ 3000 := by rw [List.length_append, pairs_len, List.length_take]; simp; omega
      have HS2 := Lib.hid (show [f.K, f.R, f.S, f.P.K, f.P.V] ++ ((f.E.take (k + 1)).flatMap fun t => [t.K, t.V]) = ([f.K, f.R, f.S, f.P.K, f.P.V] ++ ((f.E.take k).flatMap fun t => [t.K, t.V])) ++ [f.E[k].K, f.E[k].V] by rw [HS.out, List.append_assoc])
      clear HS
      generalize f.E[k] = t at *
      generalize [f.K, f.R, f.S, f.P.K, f.P.V] ++ ((f.E.take k).flatMap fun t => [t.K, t.V]) = ZS at *
      obtain ⟨av, cv, rfl⟩ := hown.form
      have hol := hown.lt
      have hs := hB.size
      have hrow := Row.made (wr.alloc (.cells #[.int .i64 t.K, .int .i64 t.V] 79)) [t.K, t.V] 3 (by simp) (by intro z hz; simp at hz; rcases hz with rfl | rfl; exact hi1.1; exact hi1.2)
      have ho2 := (hown.later (alloc_below wr (.cells #[.int .i64 t.K, .int .i64 t.V] 79))).later (alloc_below _ (.cells #[.int .i64 t.K, .int .i64 t.V] 3))
      have hB2 := (hB.alloc hs (.cells #[.int .i64 t.K, .int .i64 t.V] 79)).alloc (by simp; omega) (.cells #[.int .i64 t.K, .int .i64 t.V] 3)
      go_wp2_with (at_builtin; refine wpList_appR _ rfl (.tmp 26) (.tmp 31) rfl w.heap.size (.slice av ZS.length cv) ZS (by simp [Act.eval]) ho2 (some ⟨wr.heap.size + 1, 0, none⟩) [t.K, t.V] 2 (by simp [Act.eval]) (by simpa using hrow) (by omega) (by simp) (by simp; omega) ?_)
      intro v' w2 ho3 hg
      obtain ⟨av2, cv2, rfl⟩ := ho3.form
      go_wp2
      go_roundw
      case rel => exact ⟨k + 1, by omega, by go_num, by rw [HS2.out]; simpa using ho3, below_grown hB2 (by simp; omega) hg (fun g e => (hol g e).1)⟩
      case measure => simp [intOf]; omega
    · have d1 : decide (k < f.E.length) = false := by simpa using hlt
      have HE := Lib.hid (show f.E.take k = f.E from List.take_of_length_le (by omega))
      rw [HE.out, ← HF.out] at hown
      obtain ⟨av, cv, rfl⟩ := hown.form
      go_wp2
      go_ret
      exact ⟨_, rfl, hown, hB⟩

end Go.Proofs.Ytbghpkdkfbpmeaa
