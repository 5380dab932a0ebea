/-
  Contracts of plaitingref5, fifth part: numbers and items of bits, frames of texts.
-/
import Derived.Test.YtafcjdcmbklfkaaFr5
namespace Go.Proofs.Ytafcjdcmbklfkaa
open Go.RowKit Plait
set_option linter.unusedVariables false

theorem numR_form (l : List UInt8) : ∃ b, numR l = .tuple #[.int .i64 (num0 l), .bool b] := by
  unfold numR num0
  split
  · exact ⟨true, rfl⟩
  · exact ⟨false, rfl⟩

theorem rnumber_any (l : List UInt8) (w : World) (hs : l.length ≤ 1099511627776) :
    Calls Try.prog 58 #[.string ⟨l.toArray⟩] w fun e w' => e = .returned (.int .i64 (num0 l)) ∧ w = w' := by
  obtain ⟨b, hb⟩ := numR_form l
  have HR := Lib.hid (fun W => rnum_any l W hs)
  rw [hb] at HR
  clear hb
  generalize num0 l = n at *
  go_enter Try.func58, Try.ntmps58
  go_wp2_with fail
  refine (HR.out _).mono ?_
  rintro e wl ⟨rfl, rfl⟩
  go_wp2
  go_ret
  exact ⟨rfl, rfl⟩

set_option maxHeartbeats 1600000 in
theorem rread_any (l : List UInt8) (w : World) (h10 : 10 ≤ l.length) (hs : l.length ≤ 1048576) :
    Calls Try.prog 59 #[.string ⟨l.toArray⟩] w fun e w' => e = .returned (.agg #[.int .i64 (itOf l).K, .int .i64 (itOf l).V]) ∧ Below w.heap.size w w' := by
  have HA := Lib.hid (fun W => rnumber_any (l.take 2) W (by rw [List.length_take]; omega))
  have HB := Lib.hid (fun W => rnumber_any ((l.drop 2).take 8) W (by rw [List.length_take]; omega))
  have h1 : (2 : Int) ≤ (l.length : Int) := by omega
  have h2 : (10 : Int) ≤ (l.length : Int) := by omega
  have HF := Lib.hid (show itOf l = ⟨num0 (l.take 2), num0 ((l.drop 2).take 8)⟩ from rfl)
  have hB0 : Below w.heap.size w (w.alloc (.cells #[.int .i64 0, .int .i64 0] 26)) := alloc_below _ _
  have hK0 : Blk (w.alloc (.cells #[.int .i64 0, .int .i64 0] 26)) w.heap.size 26 #[.int .i64 0, .int .i64 0] := Blk.new _ _ _
  have hc0 := hK0.at 0
  have hc1 := hK0.at 1
  have hf0 := hK0.frozen 0
  have hf1 := hK0.frozen 1
  go_enter Try.func59, Try.ntmps59
  go_wp2_with fail
  go_region_held3 (fun W => Below w.heap.size w W) (first | exact hB0.drew | assumption | exact (alloc_below _ _).drew)
    (first
    | (go_at_call 58; refine (rnumber_any _ _ ?_).mono ?_; (simp; omega); rintro e wl ⟨rfl, rfl⟩))
  all_goals go_wp2_with fail
  all_goals
    refine bodyPost_ret (v := .agg #[.int .i64 (num0 (l.take 2)), .int .i64 (num0 ((l.drop 2).take 8))]) (by simp [results, Try.results59, go_sem]) rfl ⟨by rw [HF.out], by assumption⟩

end Go.Proofs.Ytafcjdcmbklfkaa
