/-
  plaitingref11's Mid.
-/
import Derived.Test.YtphjobeiindeeaaMid3
namespace Go.Proofs.Ytphjobeiindeeaa
open Go.RowKit Plait
set_option maxRecDepth 100000
set_option linter.unusedVariables false

/-- The loop over the numbers behind the first two. -/
def FourAt (zs : List Int) (w : World) (a b z y i : Value) (w' : World) : Prop :=
  ∃ (k : Nat) (p q r s : Int), 2 ≤ k ∧ k ≤ zs.length ∧ i = .int .i64 k ∧ a = .int .i64 p ∧ b = .int .i64 q ∧ z = .int .i64 r ∧ y = .int .i64 s ∧ Four (zs.take k) p q r s ∧ Below w.heap.size w w'

/-- The second least and the second greatest one are some of the numbers. -/
theorem nLe_mem {l : List Int} {c : Int} (h : 1 ≤ nLe l c) : ∃ x ∈ l, x ≤ c := by
  obtain ⟨x, hx, h2⟩ := List.countP_pos_iff.1 (show 0 < nLe l c from h)
  exact ⟨x, hx, of_decide_eq_true h2⟩
theorem nGe_mem {l : List Int} {c : Int} (h : 1 ≤ nGe l c) : ∃ x ∈ l, c ≤ x := by
  obtain ⟨x, hx, h2⟩ := List.countP_pos_iff.1 (show 0 < nGe l c from h)
  exact ⟨x, hx, of_decide_eq_true h2⟩
theorem Four.inB {t : List Int} {a b z y m : Int} (h : Four t a b z y) (hl : 3 ≤ t.length) (hz : ∀ v ∈ t, -m ≤ v ∧ v ≤ m) : -m ≤ b ∧ b ≤ m ∧ -m ≤ y ∧ y ≤ m := by
  obtain ⟨x, hx, q⟩ := nLe_mem (show 1 ≤ nLe t b by have := h.sb.1; omega)
  obtain ⟨u, hu, r⟩ := nGe_mem (show 1 ≤ nGe t y by have := h.sy.1; omega)
  have h1 := hz x hx
  have h2 := hz u hu
  have h3 := Sec.le h.sb h.sy hl
  omega


set_option maxHeartbeats 3200000 in
theorem rmid_any (a : Option Addr) (zs : List Int) (cap : Nat) (w : World) (hrow : Row w a zs) (hz : ∀ z ∈ zs, -1099511627776 ≤ z ∧ z ≤ 1099511627776) :
    Calls Try.prog 13 #[.slice a zs.length cap] w fun e w' => e = .returned (.tuple #[.int .i64 (midR zs).1, .bool (midR zs).2]) ∧ Below w.heap.size w w' := by
  by_cases h4 : zs.length < 4
  · have d1 : decide ((zs.length : Int) < 4) = true := by simp; omega
    rw [midR_few h4]
    clear h4
    go_enter Try.func13, Try.ntmps13
    go_wp2
    go_ret2
    exact ⟨rfl, Below.refl _ _⟩
  · have d1 : decide ((zs.length : Int) < 4) = false := by simp; omega
    have h1 : 4 ≤ zs.length := by omega
    have hlen := hrow.1
    rw [midR_is h1]
    obtain ⟨b, off, hab, hbl, c0, u1, u2⟩ := hrow.get 0 (by omega)
    obtain ⟨b', off', hab', hbl', c1, u3, u4⟩ := hrow.get 1 (by omega)
    obtain ⟨rfl, rfl⟩ : b = b' ∧ off = off' := by rw [hab] at hab'; injection hab' with e; injection e with e1 e2; exact ⟨e1, e2⟩
    subst hab
    rw [Nat.add_zero] at c0
    have HT := Lib.hid (show zs.take 2 = [zs[0], zs[1]] by
      match zs, h1 with
      | x :: y :: l, _ => rfl)
    clear hab'
    have g1 : (1 : Int) < (zs.length : Int) := by omega
    have g0 : (0 : Int) < (zs.length : Int) := by omega
    have HS := Lib.hid (show Four (zs.take 2) (min zs[0] zs[1]) (max zs[0] zs[1]) (max zs[0] zs[1]) (min zs[0] zs[1]) by
      rw [HT.out]; exact Four.two zs[0] zs[1])
    generalize zs[0] = x at *
    generalize zs[1] = y at *
    clear HT
    go_enter Try.func13, Try.ntmps13
    go_wp2
    go_region
    go_wp2
    go_loopw [4, 5, 6, 7, 8, 9, 39, 45, 50, 56] (fun a b z y i _ _ _ _ _ w' => FourAt zs w a b z y i w') (fun _ _ _ _ i _ _ _ _ _ _ => zs.length - (intOf i).toNat)
    case atStart => exact ⟨2, min x y, max x y, max x y, min x y, by omega, by omega, rfl, rfl, rfl, rfl, rfl, HS.out, by first | exact (Below.refl _ _).drew | exact below_drewN (Below.refl _ _) _⟩
    case round =>
      obtain ⟨k, p, q, r, s, hk2, hk, rfl, rfl, rfl, rfl, rfl, hf, hb⟩ := hrel
      have HFr := Lib.hid hf
      clear hf
      by_cases hlt : k < zs.length
      · have d1 : decide (k < zs.length) = true := by simpa using hlt
        obtain ⟨b2, off2, hab2, hbl2, hcell, hz1, hz2⟩ := (hrow.later hb).get k hlt
        obtain ⟨rfl, rfl⟩ : b = b2 ∧ off = off2 := by injection hab2 with e; injection e with e1 e2; exact ⟨e1, e2⟩
        clear hab2
        have hn := HFr.out.next zs[k]
        rw [← List.take_succ_eq_append_getElem hlt] at hn
        have hk3 : k + 1 ≤ zs.length := hlt
        generalize zs[k] = v at *
        have g0 : (0 : Int) ≤ (k : Int) := by omega
        have g1 : (k : Int) < (zs.length : Int) := by omega
        by_cases q0 : v < p
        · have d2 : decide (v < p) = true := by simpa using q0
          simp only [lowA, lowB, if_pos q0] at hn
          clear q0
          by_cases q2 : r < v
          · have d4 : decide (r < v) = true := by simpa using q2
            simp only [hiZ, hiY, if_pos q2] at hn
            have HN := Lib.hid hn
            clear hn q2 HFr
            go_wp2
            go_roundw
            case rel => exact ⟨k + 1, _, _, _, _, by omega, by omega, by go_num, rfl, rfl, rfl, rfl, HN.out, hb⟩
            case measure => simp [intOf]; omega
          · have d4 : decide (r < v) = false := by simpa using q2
            by_cases q3 : s < v
            · have d5 : decide (s < v) = true := by simpa using q3
              simp only [hiZ, hiY, if_neg q2, if_pos q3] at hn
              have HN := Lib.hid hn
              clear hn q2 q3 HFr
              go_wp2
              go_roundw
              case rel => exact ⟨k + 1, _, _, _, _, by omega, by omega, by go_num, rfl, rfl, rfl, rfl, HN.out, hb⟩
              case measure => simp [intOf]; omega
            · have d5 : decide (s < v) = false := by simpa using q3
              simp only [hiZ, hiY, if_neg q2, if_neg q3] at hn
              have HN := Lib.hid hn
              clear hn q2 q3 HFr
              go_wp2
              go_roundw
              case rel => exact ⟨k + 1, _, _, _, _, by omega, by omega, by go_num, rfl, rfl, rfl, rfl, HN.out, hb⟩
              case measure => simp [intOf]; omega
        · have d2 : decide (v < p) = false := by simpa using q0
          by_cases q1 : v < q
          · have d3 : decide (v < q) = true := by simpa using q1
            simp only [lowA, lowB, if_neg q0, if_pos q1] at hn
            clear q0 q1
            by_cases q2 : r < v
            · have d4 : decide (r < v) = true := by simpa using q2
              simp only [hiZ, hiY, if_pos q2] at hn
              have HN := Lib.hid hn
              clear hn q2 HFr
              go_wp2
              go_roundw
              case rel => exact ⟨k + 1, _, _, _, _, by omega, by omega, by go_num, rfl, rfl, rfl, rfl, HN.out, hb⟩
              case measure => simp [intOf]; omega
            · have d4 : decide (r < v) = false := by simpa using q2
              by_cases q3 : s < v
              · have d5 : decide (s < v) = true := by simpa using q3
                simp only [hiZ, hiY, if_neg q2, if_pos q3] at hn
                have HN := Lib.hid hn
                clear hn q2 q3 HFr
                go_wp2
                go_roundw
                case rel => exact ⟨k + 1, _, _, _, _, by omega, by omega, by go_num, rfl, rfl, rfl, rfl, HN.out, hb⟩
                case measure => simp [intOf]; omega
              · have d5 : decide (s < v) = false := by simpa using q3
                simp only [hiZ, hiY, if_neg q2, if_neg q3] at hn
                have HN := Lib.hid hn
                clear hn q2 q3 HFr
                go_wp2
                go_roundw
                case rel => exact ⟨k + 1, _, _, _, _, by omega, by omega, by go_num, rfl, rfl, rfl, rfl, HN.out, hb⟩
                case measure => simp [intOf]; omega
          · have d3 : decide (v < q) = false := by simpa using q1
            simp only [lowA, lowB, if_neg q0, if_neg q1] at hn
            clear q0 q1
            by_cases q2 : r < v
            · have d4 : decide (r < v) = true := by simpa using q2
              simp only [hiZ, hiY, if_pos q2] at hn
              have HN := Lib.hid hn
              clear hn q2 HFr
              go_wp2
              go_roundw
              case rel => exact ⟨k + 1, _, _, _, _, by omega, by omega, by go_num, rfl, rfl, rfl, rfl, HN.out, hb⟩
              case measure => simp [intOf]; omega
            · have d4 : decide (r < v) = false := by simpa using q2
              by_cases q3 : s < v
              · have d5 : decide (s < v) = true := by simpa using q3
                simp only [hiZ, hiY, if_neg q2, if_pos q3] at hn
                have HN := Lib.hid hn
                clear hn q2 q3 HFr
                go_wp2
                go_roundw
                case rel => exact ⟨k + 1, _, _, _, _, by omega, by omega, by go_num, rfl, rfl, rfl, rfl, HN.out, hb⟩
                case measure => simp [intOf]; omega
              · have d5 : decide (s < v) = false := by simpa using q3
                simp only [hiZ, hiY, if_neg q2, if_neg q3] at hn
                have HN := Lib.hid hn
                clear hn q2 q3 HFr
                go_wp2
                go_roundw
                case rel => exact ⟨k + 1, _, _, _, _, by omega, by omega, by go_num, rfl, rfl, rfl, rfl, HN.out, hb⟩
                case measure => simp [intOf]; omega
      · have d1 : decide (k < zs.length) = false := by simpa using hlt
        have hf := HFr.out
        rw [List.take_of_length_le (by omega)] at hf
        obtain ⟨i1, i2, i3, i4⟩ := Four.inB (m := 1099511627776) hf (by omega) hz
        have HM := Lib.hid (hf.mid h1)
        have z1 : IntKind.i64.wrap (q + s) = q + s := wrap_in _ (by omega) (by omega)
        clear hf HFr
        go_wp2_with fail
        refine (rhalf_any _ _ (by omega) (by omega)).mono ?_
        rintro e wl ⟨rfl, rfl⟩
        rw [HM.out]
        go_wp2
        go_ret2
        exact ⟨rfl, hb⟩

end Go.Proofs.Ytphjobeiindeeaa
