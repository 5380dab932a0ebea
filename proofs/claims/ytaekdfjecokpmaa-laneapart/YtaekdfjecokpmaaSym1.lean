/-
  Contracts of package sym's inner functions: what each call answers, for every input; nothing that was in memory is changed.
-/
import Derived.Test.YtaekdfjecokpmaaBase
import Derived.Test.YtaekdfjecokpmaaMath
import Derived.Test.YtaekdfjecokpmaaShelf
import Derived.WalkKit
import Derived.WalkSpells
import Derived.WalkLawsBesides
import Derived.Lib.Hide
namespace Go.Proofs.Ytaekdfjecokpmaa
open Go.RowKit Plait
set_option maxRecDepth 100000
set_option linter.unusedVariables false

set_option maxHeartbeats 400000 in
theorem isBit_any (r : Int) (w : World) :
    Calls Try.prog 36 #[.int .i32 r] w fun e w' => e = .returned (.bool (r == 48 || r == 49)) ∧ w = w' := by
  by_cases h : r = 48
  · subst h
    go_enter Try.func36, Try.ntmps36
    go_wp2
    go_ret
    exact ⟨rfl, rfl⟩
  · have hb : (r == 48) = false := by simp [h]
    go_enter Try.func36, Try.ntmps36
    go_wp2
    go_ret
    exact ⟨by simp [hb], rfl⟩

/-- The loop over a text: where it stands, and that all bytes ahead of it are bits. -/
def RangeAt (l : List UInt8) (w : World) (w' : World) : Prop :=
  ∃ pos : Nat, pos ≤ l.length ∧ w' = w.iter ⟨l.toArray⟩ pos ∧ ∀ c ∈ l.take pos, bitB c = true

theorem below_iter (w : World) (s : ByteArray) (p : Nat) : Below w.heap.size w (w.iter s p) := (Below.refl _ w).alloc (Nat.le_refl _) _

theorem size_mk (l : List UInt8) : (⟨l.toArray⟩ : ByteArray).size = l.length := by simp [ByteArray.size]
@[go_sem] theorem get_mk (l : List UInt8) (k : Nat) (h : k < (⟨l.toArray⟩ : ByteArray).size) : (⟨l.toArray⟩ : ByteArray)[k]'h = l[k]'(by rw [size_mk] at h; exact h) := by
  simp [ByteArray.getElem_eq_getElem_data]
@[go_sem] theorem extract_from (l : List UInt8) (a b : Nat) : (⟨l.toArray⟩ : ByteArray).extract a b = ⟨((l.drop a).take (b - a)).toArray⟩ := ByteArray.extract_mk l a b

theorem bit_toNat (c : UInt8) : bitB c = true ↔ c.toNat = 48 ∨ c.toNat = 49 := by
  simp [bitB, ← UInt8.toNat_inj]

/-- A step of the loop over a text where a byte below 128 stands. -/
theorem next_ascii (l : List UInt8) (w : World) (pos : Nat) (hlt : pos < l.length) (ha : l[pos].toNat < 128) : ∀ ty, (Instr.next (.pointer (some ⟨w.heap.size, 0, none⟩)) true ty).run Try.prog (w.iter ⟨l.toArray⟩ pos) = .ok (.tuple #[.bool true, .int .i64 pos, .int .i32 (l[pos]).toNat]) (w.iter ⟨l.toArray⟩ (pos + 1)) := fun ty => by
  have hlt' : pos < (⟨l.toArray⟩ : ByteArray).size := by rw [size_mk]; exact hlt
  rw [run_next_ascii w _ pos ty hlt' (by rw [get_mk l pos hlt']; exact ha), get_mk l pos hlt']

/-- A step of the loop over a text where no such byte stands: the rune is none of those below 128. -/
theorem next_high (l : List UInt8) (w : World) (pos : Nat) (hlt : pos < l.length) (ha : ¬ l[pos].toNat < 128) : ∃ (r wd : Nat), 128 ≤ r ∧ r ≤ 2147483647 ∧ ∀ ty, (Instr.next (.pointer (some ⟨w.heap.size, 0, none⟩)) true ty).run Try.prog (w.iter ⟨l.toArray⟩ pos) = .ok (.tuple #[.bool true, .int .i64 pos, .int .i32 r]) (w.iter ⟨l.toArray⟩ (pos + wd)) := by
  have hlt' : pos < (⟨l.toArray⟩ : ByteArray).size := by rw [size_mk]; exact hlt
  have hd := decode_high ⟨l.toArray⟩ pos hlt' (by rw [get_mk l pos hlt']; omega)
  exact ⟨_, _, hd.1, decode_le _ _, fun ty => run_next_any w _ pos ty hlt'⟩

theorem next_end (l : List UInt8) (w : World) (pos : Nat) (hlt : ¬ pos < l.length) : ∀ ty, (Instr.next (.pointer (some ⟨w.heap.size, 0, none⟩)) true ty).run Try.prog (w.iter ⟨l.toArray⟩ pos) = .ok (.tuple #[.bool false]) (w.iter ⟨l.toArray⟩ pos) := fun ty =>
  run_next_end w _ pos ty (by rw [size_mk]; exact hlt)

set_option maxHeartbeats 400000 in
theorem streamLen_any (l : List UInt8) (w : World) (hs : l.length < 9223372036854775807) :
    Calls Try.prog 33 #[.string ⟨l.toArray⟩] w fun e w' => e = .returned (.int .i64 (slen l)) ∧ Below w.heap.size w w' := by
  go_enter Try.func33, Try.ntmps33
  go_wp2
  go_loopw [] (fun w' => RangeAt l w w') (fun w' => l.length - w'.iterPos w.heap.size)
  case atStart => exact ⟨0, Nat.zero_le _, rfl, by simp⟩
  case round =>
    obtain ⟨pos, hp, rfl, hb⟩ := hrel
    have HB := Lib.hid hb
    clear hb
    by_cases hlt : pos < l.length
    · by_cases ha : (l[pos]).toNat < 128
      · have hnx := next_ascii l w pos hlt ha
        by_cases h35 : l[pos].toNat = 35
        · have h1 : (((l[pos].toNat : Nat) : Int) == 35) = true := by simp [h35]
          have HF := Lib.hid (slen_at_tail l pos hlt HB.out (UInt8.toNat_inj.1 h35))
          clear h35
          go_wp2
          go_ret
          exact ⟨ret_int (by rw [HF.out]; simp), below_iter _ _ _⟩
        · have h1 : (((l[pos].toNat : Nat) : Int) == 35) = false := by simp; omega
          by_cases hbit : bitB l[pos] = true
          · have hbit' := (bit_toNat _).1 hbit
            have h2 : ((((l[pos].toNat : Nat) : Int) == 48) || (((l[pos].toNat : Nat) : Int) == 49)) = true := by simp; omega
            have HN := Lib.hid (bits_snoc l pos hlt HB.out hbit)
            clear h35 hbit hbit'
            go_wp2_with (go_at_call 36; refine (isBit_any _ _).mono ?_; rintro e w' ⟨rfl, rfl⟩; rw [h2])
            go_roundw
            case rel => exact ⟨pos + 1, by omega, rfl, HN.out⟩
            case measure => simp; omega
          · have h2 : ((((l[pos].toNat : Nat) : Int) == 48) || (((l[pos].toNat : Nat) : Int) == 49)) = false := by
              rw [bit_toNat] at hbit
              simp; omega
            have HF := Lib.hid (slen_at_other l pos hlt HB.out (fun e => h35 (by rw [e]; rfl)) (by simpa using hbit))
            clear h35 hbit
            go_wp2_with (go_at_call 36; refine (isBit_any _ _).mono ?_; rintro e w' ⟨rfl, rfl⟩; rw [h2])
            go_ret
            exact ⟨ret_int (by rw [HF.out]), below_iter _ _ _⟩
      · obtain ⟨r, wd, hr, hr2, hnx⟩ := next_high l w pos hlt ha
        have h1 : ((r : Int) == 35) = false := by simp; omega
        have h2 : (((r : Int) == 48) || ((r : Int) == 49)) = false := by simp; omega
        have HF := Lib.hid (slen_at_other l pos hlt HB.out (fun e => ha (by rw [e]; decide)) (by rw [Bool.eq_false_iff]; intro e; rw [bit_toNat] at e; omega))
        clear ha
        go_wp2_with (go_at_call 36; refine (isBit_any _ _).mono ?_; rintro e w' ⟨rfl, rfl⟩; rw [h2])
        go_ret
        exact ⟨ret_int (by rw [HF.out]), below_iter _ _ _⟩
    · have hnx := next_end l w pos hlt
      have HF := Lib.hid (slen_at_end l (by rw [show l.length = pos by omega]; exact HB.out))
      go_wp2
      go_ret
      exact ⟨ret_int (by rw [HF.out]), below_iter _ _ _⟩

end Go.Proofs.Ytaekdfjecokpmaa
