/-
  Contract of sym.Turn: for every text and place; nothing that was in memory is changed.
-/
import Derived.Test.YtbghpkdkfbpmeaaSym2
import Derived.Laws.IdiomStrings
namespace Go.Proofs.Ytbghpkdkfbpmeaa
open Go.RowKit Plait
set_option maxRecDepth 100000
set_option linter.unusedVariables false

theorem turn_out (l : List UInt8) (i : Int) (h : i < 0 ∨ (l.length : Int) ≤ i) : turn l i = l := by
  unfold turn
  rw [if_neg (by omega)]

theorem turn_in (l : List UInt8) (k : Nat) (h : k < l.length) : turn l (k : Int) = l.set k (other l[k]) := by
  unfold turn
  rw [if_pos (by omega)]
  simp [h]

theorem addr_add (b o j : Nat) : (⟨b, o, none⟩ : Addr).add j = ⟨b, o + j, none⟩ := by
  unfold Addr.add
  by_cases hj : j = 0 <;> simp [hj]

/-- A row of bytes, made out of a text: what was in memory stays. -/
theorem bytes_row (l : List UInt8) (w : World) : ∃ (C : Array Value) (cap : Nat), l.length ≤ C.size ∧ (∀ k (hk : k < l.length), C[k]? = some (.int .u8 (l[k].toNat : Int))) ∧
    (convert 9 38 (.string ⟨l.toArray⟩)).run Try.prog w = .ok (.slice (some ⟨w.heap.size, 0, none⟩) l.length cap) (w.drew.alloc (.cells C 5 (C.size, C.size + 1))) := by
  have h := run_bytes_of_string (P := Try.prog) w 9 38 5 ⟨l.toArray⟩ Try.underlying9 Try.underlying38 Try.underlying5
  rw [size_mk] at h
  refine ⟨_, _, ?_, ?_, h⟩
  · simp [bytesRow]
  · intro k hk
    have := bytesRow_at ⟨l.toArray⟩ (grownCap w l.length 0 5) k (by simpa using hk)
    rw [this]
    simp

set_option maxHeartbeats 400000 in
theorem turn_any (l : List UInt8) (i : Int) (w : World) (hs : l.length ≤ 1099511627776) :
    Calls Try.prog 52 #[.string ⟨l.toArray⟩, .int .i64 i] w fun e w' => e = .returned (.string ⟨(turn l i).toArray⟩) ∧ Below w.heap.size w w' := by
  by_cases h0 : i < 0
  · have HF := Lib.hid (turn_out l i (.inl h0))
    go_enter Try.func52, Try.ntmps52
    go_wp2_with (go_at_call 39; refine (clone_any _ _ (by rw [size_mk]; omega)).mono ?_; rintro e w2 ⟨rfl, hb2⟩)
    go_ret
    exact ⟨ret_str HF.out.symm, hb2⟩
  by_cases h1 : (l.length : Int) ≤ i
  · have HF := Lib.hid (turn_out l i (.inr h1))
    go_enter Try.func52, Try.ntmps52
    go_wp2_with (go_at_call 39; refine (clone_any _ _ (by rw [size_mk]; omega)).mono ?_; rintro e w2 ⟨rfl, hb2⟩)
    go_ret
    exact ⟨ret_str HF.out.symm, hb2⟩
  obtain ⟨k, rfl⟩ := Int.eq_ofNat_of_zero_le (by omega : 0 ≤ i)
  have hk : k < l.length := by omega
  have HF := Lib.hid (turn_in l k hk)
  obtain ⟨C, cap, hC, hcells, hconv⟩ := bytes_row l w
  have hc : (w.alloc (.cells C 5 (C.size, C.size + 1))).cell? ⟨w.heap.size, k, none⟩ = some (.int .u8 (l[k].toNat : Int)) := by rw [World.cell?_alloc_mark, hcells k hk]
  have hz : (w.alloc (.cells C 5 (C.size, C.size + 1))).frozen? ⟨w.heap.size, k, none⟩ = false := by
    rw [World.frozen?_alloc_mark]; simp; omega
  have hback : (convert 38 9 (.slice (some ⟨w.heap.size, 0, none⟩) l.length cap)).run Try.prog ((w.alloc (.cells C 5 (C.size, C.size + 1))).setCell ⟨w.heap.size, k, none⟩ (.int .u8 ((other l[k]).toNat : Int))).drew = .ok (.string ⟨(l.set k (other l[k])).toArray⟩) ((w.alloc (.cells C 5 (C.size, C.size + 1))).setCell ⟨w.heap.size, k, none⟩ (.int .u8 ((other l[k]).toNat : Int))).drew := by
    have h := run_convert_bytes_back (P := Try.prog) ((w.alloc (.cells C 5 (C.size, C.size + 1))).setCell ⟨w.heap.size, k, none⟩ (.int .u8 ((other l[k]).toNat : Int))).drew 38 9 5 ⟨w.heap.size, 0, none⟩ cap (l.set k (other l[k])) Try.underlying38 Try.underlying5 Try.underlying9 (fun j hj => by
      show ((w.alloc (.cells C 5 (C.size, C.size + 1))).setCell ⟨w.heap.size, k, none⟩ (.int .u8 ((other l[k]).toNat : Int))).cell? ((⟨w.heap.size, 0, none⟩ : Addr).add j) = _
      rw [addr_add, Nat.zero_add]
      by_cases hjk : j = k
      · subst hjk
        rw [World.cell?_setCell_same _ _ _ hc]
        simp
      · rw [World.cell?_setCell_other _ _ _ _ (by simp), World.cell?_alloc_mark, hcells j (by simpa using hj), List.getElem_set_ne (by omega)])
    simpa using h
  clear hcells h0 h1
  go_enter Try.func52, Try.ntmps52
  go_wp2_with fail
  refine (other_any l[k] _).mono ?_
  rintro e w2 ⟨rfl, rfl⟩
  go_wp2
  go_ret
  exact ⟨ret_str HF.out.symm, (((Below.refl _ w).alloc (Nat.le_refl _) _).setCell (Nat.le_refl _) _).drew⟩

end Go.Proofs.Ytbghpkdkfbpmeaa
