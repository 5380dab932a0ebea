/-
  Contracts of package sym's inner functions: what each call answers, for every input; nothing that was in memory is changed.
-/
import Derived.Test.YtfpbijcgbknklaaBase
import Derived.Test.YtfpbijcgbknklaaMath
import Derived.Test.YtfpbijcgbknklaaShelf
import Derived.WalkKit
import Derived.WalkSpells
import Derived.WalkLawsBesides
import Derived.Lib.Hide
namespace Go.Proofs.Ytfpbijcgbknklaa
open Go.RowKit Plait
set_option maxRecDepth 100000
set_option linter.unusedVariables false

/-- The loop over a text: where it stands, and that all bytes ahead of it are bits. -/
def RangeAt (l : List UInt8) (w : World) (w' : World) : Prop :=
  ∃ pos : Nat, pos ≤ l.length ∧ w' = w.iter ⟨l.toArray⟩ pos ∧ ∀ c ∈ l.take pos, bitB c = true

theorem below_iter (w : World) (s : ByteArray) (p : Nat) : Below w.heap.size w (w.iter s p) := (Below.refl _ w).alloc (Nat.le_refl _) _

theorem size_mk (l : List UInt8) : (⟨l.toArray⟩ : ByteArray).size = l.length := by simp [ByteArray.size]
@[go_sem] theorem get_mk (l : List UInt8) (k : Nat) (h : k < (⟨l.toArray⟩ : ByteArray).size) : (⟨l.toArray⟩ : ByteArray)[k]'h = l[k]'(by rw [size_mk] at h; exact h) := by
  simp [ByteArray.getElem_eq_getElem_data]
@[go_sem] theorem extract_from (l : List UInt8) (a b : Nat) : (⟨l.toArray⟩ : ByteArray).extract a b = ⟨((l.drop a).take (b - a)).toArray⟩ := ByteArray.extract_mk l a b

theorem bit_toNat (c : UInt8) : bitB c = true ↔ c.toNat = 48 ∨ c.toNat = 49 := by
  simp [bitB, ← UInt8.toNat_inj]

/-- A step of the loop over a text where a byte below 128 stands. -/
theorem next_ascii (l : List UInt8) (w : World) (pos : Nat) (hlt : pos < l.length) (ha : l[pos].toNat < 128) : ∀ ty, (Instr.next (.pointer (some ⟨w.heap.size, 0, none⟩)) true ty).run Try.prog (w.iter ⟨l.toArray⟩ pos) = .ok (.tuple #[.bool true, .int .i64 pos, .int .i32 (l[pos]).toNat]) (w.iter ⟨l.toArray⟩ (pos + 1)) := fun ty => by
  have hlt' : pos < (⟨l.toArray⟩ : ByteArray).size := by rw [size_mk]; exact hlt
  rw [run_next_ascii w _ pos ty hlt' (by rw [get_mk l pos hlt']; exact ha), get_mk l pos hlt']

/-- A step of the loop over a text where no such byte stands: the rune is none of those below 128. -/
theorem next_high (l : List UInt8) (w : World) (pos : Nat) (hlt : pos < l.length) (ha : ¬ l[pos].toNat < 128) : ∃ (r wd : Nat), 128 ≤ r ∧ r ≤ 2147483647 ∧ ∀ ty, (Instr.next (.pointer (some ⟨w.heap.size, 0, none⟩)) true ty).run Try.prog (w.iter ⟨l.toArray⟩ pos) = .ok (.tuple #[.bool true, .int .i64 pos, .int .i32 r]) (w.iter ⟨l.toArray⟩ (pos + wd)) := by
  have hlt' : pos < (⟨l.toArray⟩ : ByteArray).size := by rw [size_mk]; exact hlt
  have hd := decode_high ⟨l.toArray⟩ pos hlt' (by rw [get_mk l pos hlt']; omega)
  exact ⟨_, _, hd.1, decode_le _ _, fun ty => run_next_any w _ pos ty hlt'⟩

theorem next_end (l : List UInt8) (w : World) (pos : Nat) (hlt : ¬ pos < l.length) : ∀ ty, (Instr.next (.pointer (some ⟨w.heap.size, 0, none⟩)) true ty).run Try.prog (w.iter ⟨l.toArray⟩ pos) = .ok (.tuple #[.bool false]) (w.iter ⟨l.toArray⟩ pos) := fun ty =>
  run_next_end w _ pos ty (by rw [size_mk]; exact hlt)

end Go.Proofs.Ytfpbijcgbknklaa
