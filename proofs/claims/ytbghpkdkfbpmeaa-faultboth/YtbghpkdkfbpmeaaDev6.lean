/-
  Contracts of package ring, first part: steps round a ring, how far it is, a link's ends, the link between two nodes.
-/
import Derived.Test.YtbghpkdkfbpmeaaBase
import Derived.Test.YtbghpkdkfbpmeaaRing1
namespace Go.Proofs.Ytbghpkdkfbpmeaa
open Go.RowKit Plait
set_option maxRecDepth 100000
set_option linter.unusedVariables false

theorem gholds_any (n x : Int) (w : World) : Calls Try.prog 116 #[.int .i64 n, .int .i64 x] w fun e w' => e = .returned (.bool (nodeI n x)) ∧ w = w' := by
  have HF := Lib.hid (show (decide (0 ≤ x) && decide (x < n)) = nodeI n x from rfl)
  by_cases h : 0 ≤ x
  · go_enter Try.func116, Try.ntmps116
    go_wp2
    go_ret
    exact ⟨ret_bool (by rw [← HF.out]; simp [h]), rfl⟩
  · have hd : decide (0 ≤ x) = false := by simpa using h
    go_enter Try.func116, Try.ntmps116
    go_wp2
    go_ret
    exact ⟨ret_bool (by rw [← HF.out]; simp [hd]), rfl⟩

/-- The loop over the steps. -/
def StepAt (n : Int) (zs : List Int) (x i : Value) : Prop := ∃ k : Nat, k ≤ zs.length ∧ i = .int .i64 k ∧ x = .int .i64 (accI n (zs.take k))

set_option maxHeartbeats 1600000 in
theorem gat_any (n : Int) (a : Option Addr) (zs : List Int) (cap : Nat) (w : World) (hn : 0 < n) (hn2 : n ≤ 1099511627776) (hrow : Row w a zs) :
    Calls Try.prog 118 #[.int .i64 n, .slice a zs.length cap] w fun e w' => e = .returned (.int .i64 (zs.sum % n)) ∧ w = w' := by
  have hlen := hrow.1
  go_enter Try.func118, Try.ntmps118
  go_wp2
  go_loop [6, 8, 14] (fun x _ i => StepAt n zs x i) (fun _ _ i => zs.length - (intOf i).toNat)
  case atStart => exact ⟨0, Nat.zero_le _, rfl, by simp [accI]⟩
  case round =>
    obtain ⟨k, hk, rfl, rfl⟩ := hrel
    obtain ⟨b1, b2⟩ := accI_in n hn (zs.take k)
    by_cases hlt : k < zs.length
    · have d1 : decide (k < zs.length) = true := by simpa using hlt
      obtain ⟨b, off, rfl, hbl, hcell, hz1, hz2⟩ := hrow.get k hlt
      have HS := Lib.hid (accI_take n zs k hlt)
      obtain ⟨t1, t2⟩ := tmod_in zs[k] n hn
      generalize accI n (zs.take k) = x at *
      generalize zs[k] = z at *
      go_wp2
      go_round
      case rel => exact ⟨k + 1, by omega, by go_num, by rw [HS.out]⟩
      case measure => simp [intOf]; omega
    · have d1 : decide (k < zs.length) = false := by simpa using hlt
      have HE := Lib.hid (show accI n (zs.take k) % n = zs.sum % n by rw [List.take_of_length_le (by omega)]; exact accI_emod n zs)
      generalize accI n (zs.take k) = x at *
      by_cases hx : x < 0
      · have HF := Lib.hid (emod_neg n x b1 hx)
        go_wp2
        go_ret
        exact ⟨ret_int (by rw [HF.out, HE.out]), rfl⟩
      · have HF := Lib.hid (Int.emod_eq_of_lt (show 0 ≤ x by omega) b2)
        go_wp2
        go_ret
        exact ⟨ret_int (by rw [← HE.out, HF.out]), rfl⟩

theorem made2 (w : World) (x y : Int) (hx : inI x) (hy : inI y) : Row (w.alloc (.cells #[.int .i64 x, .int .i64 y] 3)) (some ⟨w.heap.size, 0, none⟩) [x, y] := Row.made w [x, y] _ (by simp) (by simp; exact ⟨hx, hy⟩)

theorem gup_any (n a b : Int) (w : World) (hn : 0 < n) (hn2 : n ≤ 1099511627776) (ha : inI a) (ha2 : inI (-a)) (hb : inI b) :
    Calls Try.prog 117 #[.int .i64 n, .int .i64 a, .int .i64 b] w fun e w' => e = .returned (.int .i64 ((b - a) % n)) ∧ Below w.heap.size w w' := by
  have HC := Lib.hid (gat_any n _ [b, -a] 2 _ hn hn2 (made2 w b (-a) hb ha2))
  have z1 : IntKind.i64.wrap (-a) = -a := wrap_in _ ha2.1 ha2.2
  go_enter Try.func117, Try.ntmps117
  go_wp2_with fail
  refine HC.out.mono ?_
  rintro e wl ⟨rfl, rfl⟩
  go_wp2
  go_ret
  exact ⟨ret_int (by rw [Int.sub_eq_add_neg]), alloc_below _ _⟩

theorem ret_pair {a b c d : Int} (h : a = c) (h' : b = d) : Ending.returned (.tuple #[.int .i64 a, .int .i64 b]) = .returned (.tuple #[.int .i64 c, .int .i64 d]) := by rw [h, h']
theorem ret_found {a : Int} {b : Bool} {p : Int × Bool} (h : p = (a, b)) : Ending.returned (.tuple #[.int .i64 a, .bool b]) = .returned (.tuple #[.int .i64 p.1, .bool p.2]) := by rw [h]

/-- The loop over both orders of two nodes: the second round is reached where the first one found nothing. -/
def LinkAt (n a b : Int) (w : World) (i : Value) (w' : World) : Prop :=
  ∃ k : Nat, i = .int .i64 k ∧ Below w.heap.size w w' ∧ (k = 0 ∨ k = 1 ∧ (b - a) % n ≠ 1 ∧ (b - a) % n ≠ 2 ∨ k = 2 ∧ (b - a) % n ≠ 1 ∧ (b - a) % n ≠ 2 ∧ (a - b) % n ≠ 1 ∧ (a - b) % n ≠ 2)

set_option maxHeartbeats 3200000 in
theorem gLink_any (n a b : Int) (w : World) (hn : 0 < n) (hn2 : n ≤ 1000000) (ha : inI a) (hb : inI b) :
    Calls Try.prog 115 #[.int .i64 n, .int .i64 a, .int .i64 b] w fun e w' => e = .returned (.tuple #[.int .i64 (linkI n a b).1, .bool (linkI n a b).2]) ∧ Below w.heap.size w w' := by
  cases h1 : nodeI n a
  · have H1 := Lib.hid h1
    have HF := Lib.hid (linkI_off n a b h1)
    clear h1
    go_enter Try.func115, Try.ntmps115
    go_wp2_with fail
    refine (gholds_any n a _).mono ?_
    rintro e wl ⟨rfl, rfl⟩
    rw [H1.out]
    go_wp2
    go_ret2
    exact ⟨ret_found HF.out, Below.refl _ _⟩
  · cases h2 : nodeI n b
    · have H1 := Lib.hid h1
      have H2 := Lib.hid h2
      have HF := Lib.hid (linkI_off2 n a b h2)
      clear h1 h2
      go_enter Try.func115, Try.ntmps115
      go_wp2_with fail
      refine (gholds_any n a _).mono ?_
      rintro e wl ⟨rfl, rfl⟩
      rw [H1.out]
      go_wp2_with fail
      refine (gholds_any n b _).mono ?_
      rintro e wl ⟨rfl, rfl⟩
      rw [H2.out]
      go_wp2
      go_ret2
      exact ⟨ret_found HF.out, Below.refl _ _⟩
    · have H1 := Lib.hid h1
      have H2 := Lib.hid h2
      obtain ⟨a0, a1⟩ : 0 ≤ a ∧ a < n := by unfold nodeI at h1; simpa using h1
      obtain ⟨b0, b1⟩ : 0 ≤ b ∧ b < n := by unfold nodeI at h2; simpa using h2
      clear h1 h2 ha hb
      have ia : inI a := ⟨by omega, by omega⟩
      have ib : inI b := ⟨by omega, by omega⟩
      have ja : inI (-a) := ⟨by omega, by omega⟩
      have jb : inI (-b) := ⟨by omega, by omega⟩
      have x0 : ∀ w : World, (Instr.index 149 (.agg #[.int .i64 a, .int .i64 b, .int .i64 b, .int .i64 a]) (.int .i64 0)).run Try.prog w = .ok (.agg #[.int .i64 a, .int .i64 b]) w := fun _ => by kernel_rfl
      have x1 : ∀ w : World, (Instr.index 149 (.agg #[.int .i64 a, .int .i64 b, .int .i64 b, .int .i64 a]) (.int .i64 1)).run Try.prog w = .ok (.agg #[.int .i64 b, .int .i64 a]) w := fun _ => by kernel_rfl
      go_enter Try.func115, Try.ntmps115
      go_wp2_with fail
      refine (gholds_any n a _).mono ?_
      rintro e wl ⟨rfl, rfl⟩
      rw [H1.out]
      go_wp2_with fail
      refine (gholds_any n b _).mono ?_
      rintro e wl ⟨rfl, rfl⟩
      rw [H2.out]
      go_wp2
      go_loopw [10, 29] (fun _ i w' => LinkAt n a b w i w') (fun _ i _ => 2 - (intOf i).toNat)
      case atStart => exact ⟨0, rfl, Below.refl _ _, .inl rfl⟩
      case round =>
        obtain ⟨k, rfl, hB, hk⟩ := hrel
        rcases hk with rfl | ⟨rfl, n1, n2⟩ | ⟨rfl, n1, n2, n3, n4⟩
        · by_cases e1 : (b - a) % n = 1
          · have HF := Lib.hid (linkI_1 n a b H1.out H2.out e1)
            have d1 : ((b - a) % n == 1) = true := by simpa using e1
            clear e1
            go_wp2_with fail
            refine (gup_any n a b _ hn (by omega) ia ja ib).mono ?_
            rintro e wn ⟨rfl, hb⟩
            obtain ⟨hb2, hK, hZ⟩ := boxed hb
            replace hB := hB.trans (hb2.mono hB.size)
            have hQ := hK.at
            clear hb hb2
            go_wp2
            go_ret2
            exact ⟨ret_found HF.out, hB⟩
          · by_cases e2 : (b - a) % n = 2
            · have HF := Lib.hid (linkI_2 n a b H1.out H2.out e2)
              have d1 : ((b - a) % n == 1) = false := by simpa using e1
              have d2 : ((b - a) % n == 2) = true := by simpa using e2
              clear e1 e2
              go_wp2_with fail
              refine (gup_any n a b _ hn (by omega) ia ja ib).mono ?_
              rintro e wn ⟨rfl, hb⟩
              obtain ⟨hb2, hK, hZ⟩ := boxed hb
              replace hB := hB.trans (hb2.mono hB.size)
              have hQ := hK.at
              clear hb hb2
              go_wp2
              go_ret2
              exact ⟨ret_found HF.out, hB⟩
            · have d1 : ((b - a) % n == 1) = false := by simpa using e1
              have d2 : ((b - a) % n == 2) = false := by simpa using e2
              go_wp2_with fail
              refine (gup_any n a b _ hn (by omega) ia ja ib).mono ?_
              rintro e wn ⟨rfl, hb⟩
              obtain ⟨hb2, hK, hZ⟩ := boxed hb
              replace hB := hB.trans (hb2.mono hB.size)
              have hQ := hK.at
              clear hb hb2
              go_wp2
              go_roundw
              case rel => exact ⟨1, by go_num, hB, .inr (.inl ⟨rfl, e1, e2⟩)⟩
              case measure => simp [intOf]
        · by_cases e1 : (a - b) % n = 1
          · have HF := Lib.hid (linkI_3 n a b H1.out H2.out n1 n2 e1)
            have d1 : ((a - b) % n == 1) = true := by simpa using e1
            clear e1
            go_wp2_with fail
            refine (gup_any n b a _ hn (by omega) ib jb ia).mono ?_
            rintro e wn ⟨rfl, hb⟩
            obtain ⟨hb2, hK, hZ⟩ := boxed hb
            replace hB := hB.trans (hb2.mono hB.size)
            have hQ := hK.at
            clear hb hb2
            go_wp2
            go_ret2
            exact ⟨ret_found HF.out, hB⟩
          · by_cases e2 : (a - b) % n = 2
            · have HF := Lib.hid (linkI_4 n a b H1.out H2.out n1 n2 e2)
              have d1 : ((a - b) % n == 1) = false := by simpa using e1
              have d2 : ((a - b) % n == 2) = true := by simpa using e2
              clear e1 e2
              go_wp2_with fail
              refine (gup_any n b a _ hn (by omega) ib jb ia).mono ?_
              rintro e wn ⟨rfl, hb⟩
              obtain ⟨hb2, hK, hZ⟩ := boxed hb
              replace hB := hB.trans (hb2.mono hB.size)
              have hQ := hK.at
              clear hb hb2
              go_wp2
              go_ret2
              exact ⟨ret_found HF.out, hB⟩
            · have d1 : ((a - b) % n == 1) = false := by simpa using e1
              have d2 : ((a - b) % n == 2) = false := by simpa using e2
              go_wp2_with fail
              refine (gup_any n b a _ hn (by omega) ib jb ia).mono ?_
              rintro e wn ⟨rfl, hb⟩
              obtain ⟨hb2, hK, hZ⟩ := boxed hb
              replace hB := hB.trans (hb2.mono hB.size)
              have hQ := hK.at
              clear hb hb2
              go_wp2
              go_roundw
              case rel => exact ⟨2, by go_num, hB, .inr (.inr ⟨rfl, n1, n2, e1, e2⟩)⟩
              case measure => simp [intOf]
        · have HF := Lib.hid (linkI_5 n a b H1.out H2.out n1 n2 n3 n4)
          go_wp2
          go_ret2
          exact ⟨ret_found HF.out, hB⟩

end Go.Proofs.Ytbghpkdkfbpmeaa
