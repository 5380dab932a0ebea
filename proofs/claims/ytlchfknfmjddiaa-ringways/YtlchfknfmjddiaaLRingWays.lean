/-
  RingWays' walk.
-/
import Derived.Test.YtlchfknfmjddiaaLaw40
import Derived.Test.YtlchfknfmjddiaaBase2
namespace Go.Proofs.Ytlchfknfmjddiaa
open Go.RowKit Plait
set_option linter.unusedVariables false

/-- What holds of a way, and of the other one. -/
def wayOk (n : Int) (os : List Int) (d : Int) : Bool :=
  decide (((wayI n os d).length : Int) = n - os.length) && decide ((wayI n os (-d)).length = (wayI n os d).length) &&
    (List.range (wayI n os d).length).all fun k => (wayI n os d).getD k 0 == (wayI n os (-d)).getD ((wayI n os (-d)).length - 1 - k) 0 && !inB os ((wayI n os d).getD k 0) && (k == 0 || (wayI n os d).getD k 0 == ((wayI n os d).getD (k - 1) 0 + d) % n)

theorem wayOk_fin : ∀ n : Fin 7, ∀ a : Fin 12, ∀ up : Bool, a.val < 6 + n.val → wayOk (6 + (n.val : Int)) [(a.val : Int)] (if up then 1 else -1) = true ∧ wayOk (6 + (n.val : Int)) [(a.val : Int), ((a.val : Int) + 1) % (6 + (n.val : Int))] (if up then 1 else -1) = true := by decide +kernel

theorem wayOk_any (n : Int) (os : List Int) (d : Int) (h1 : 6 ≤ n) (h2 : n ≤ 12) (ho : OwnersOk n os) (hd : d = 1 ∨ d = -1) : wayOk n os d = true := by
  obtain ⟨a, a0, a1, ho⟩ := ho
  have e1 : 6 + (((n - 6).toNat : Nat) : Int) = n := by omega
  have e2 : ((a.toNat : Nat) : Int) = a := by omega
  have hd' : ∃ up : Bool, d = if up then 1 else -1 := by rcases hd with rfl | rfl; exact ⟨true, rfl⟩; exact ⟨false, rfl⟩
  obtain ⟨up, rfl⟩ := hd'
  have hf := wayOk_fin ⟨(n - 6).toNat, by omega⟩ ⟨a.toNat, by omega⟩ up (by show a.toNat < 6 + (n - 6).toNat; omega)
  simp only [e1, e2] at hf
  rcases ho with rfl | rfl
  · exact hf.1
  · exact hf.2

/-- The parts of it. -/
theorem wayOk_parts (n : Int) (os : List Int) (d d' : Int) (L M : List Int) (hL : wayI n os d = L) (hM : wayI n os d' = M) (hd : d' = -d) (h : wayOk n os d = true) :
    (L.length : Int) = n - os.length ∧ M.length = L.length ∧
    ∀ k (hk : k < L.length) (hk' : M.length - 1 - k < M.length), L[k] = M[M.length - 1 - k] ∧ inB os L[k] = false ∧ (k = 0 ∨ ∃ hp : k - 1 < L.length, L[k] = (L[k - 1] + d) % n) := by
  subst hd
  unfold wayOk at h
  rw [hL, hM] at h
  rw [Bool.and_eq_true, Bool.and_eq_true, List.all_eq_true] at h
  obtain ⟨⟨h1, h2⟩, h3⟩ := h
  refine ⟨of_decide_eq_true h1, of_decide_eq_true h2, fun k hk hk' => ?_⟩
  have := h3 k (List.mem_range.2 hk)
  rw [Bool.and_eq_true, Bool.and_eq_true] at this
  obtain ⟨⟨g1, g2⟩, g3⟩ := this
  have hp : k - 1 < L.length := by omega
  rw [List.getD_eq_getElem?_getD, List.getD_eq_getElem?_getD, List.getElem?_eq_getElem hk, List.getElem?_eq_getElem hk'] at g1
  rw [List.getD_eq_getElem?_getD, List.getElem?_eq_getElem hk] at g2
  rw [List.getD_eq_getElem?_getD, List.getD_eq_getElem?_getD, List.getElem?_eq_getElem hk, List.getElem?_eq_getElem hp] at g3
  simp only [Option.getD_some] at g1 g2 g3
  refine ⟨eq_of_beq g1, by simpa using g2, ?_⟩
  rw [Bool.or_eq_true] at g3
  rcases g3 with g3 | g3
  · exact .inl (eq_of_beq g3)
  · exact .inr ⟨hp, eq_of_beq g3⟩

theorem owners_in (n : Int) (os : List Int) (hn : 0 < n) (h : OwnersOk n os) : 0 < os.length ∧ os.length ≤ 2 ∧ ∀ z ∈ os, 0 ≤ z ∧ z < n := by
  obtain ⟨a, a0, a1, rfl | rfl⟩ := h
  · simp; omega
  · have h1 := Int.emod_nonneg (a + 1) (show n ≠ 0 by omega)
    have h2 := Int.emod_lt_of_pos (a + 1) hn
    simp; omega

theorem Row.all {w : World} {a : Option Addr} {zs : List Int} (h : Row w a zs) (hz : 0 < zs.length) : ∃ b off : Nat, a = some ⟨b, off, none⟩ ∧ b < w.heap.size ∧ ∀ i (h : i < zs.length), w.cell? ⟨b, off + i, none⟩ = some (.int .i64 zs[i]) := by
  rcases h.2.2 with e | h
  · rw [e] at hz; simp at hz
  · exact h

theorem wayI_in (n : Int) (os : List Int) (d : Int) (hn : 0 < n) : ∀ z ∈ wayI n os d, 0 ≤ z ∧ z < n := by
  intro z hz
  unfold wayI at hz
  split at hz
  · simp at hz
  · exact walkTo_in n _ d _ hn z (List.mem_filter.1 hz).1

theorem wrap_less (a j : Nat) (h : j ≤ a) (ha : a ≤ 1000000) : IntKind.i64.wrap ((a : Int) - (j : Int)) = ((a - j : Nat) : Int) := by rw [wrap_in _ (by omega) (by omega)]; omega
theorem wrap_pred (a : Nat) (h : 1 ≤ a) (ha : a ≤ 1000000) : IntKind.i64.wrap ((a : Int) - 1) = ((a - 1 : Nat) : Int) := by rw [wrap_in _ (by omega) (by omega)]; omega

/-- A call in a quiet region, by a contract that leaves the world. -/
theorem quiet_same {P : Program} {f : FuncId} {args : Array Value} {w : World} {n : Nat} {v : Value} (h : Calls P f args (w.drewN n) fun e w' => e = .returned v ∧ w.drewN n = w') : Calls P f args (w.drewN n) fun e w'' => e = .returned v ∧ ∃ m, w'' = w.drewN m :=
  h.mono fun _ _ ⟨he, hm⟩ => ⟨he, n, hm.symm⟩

theorem wayI_nil (n d : Int) : wayI n [] d = [] := by simp [wayI]

set_option maxRecDepth 100000 in
set_option maxHeartbeats 12800000 in
theorem ringWays_walk (n a : Int) (two up : Bool) (w : World) (n1 : -9223372036854775808 ≤ n) (n2 : n ≤ 9223372036854775807) (a1 : -9223372036854775808 ≤ a) (a2 : a ≤ 9223372036854775807) :
    Calls Try.prog 6 #[.int .i64 n, .int .i64 a, .bool two, .bool up] w fun e w' => e = .returned (.bool true) ∧ Below w.heap.size w w' := by
  have hB : Below w.heap.size w w := Below.refl _ _
  go_enter Try.func6, Try.ntmps6
  go_wp2_with fail
  refine (known4_any _).mono ?_
  rintro e wn ⟨rfl, hb⟩
  replace hB := hB.trans (hb.mono hB.size)
  clear hb
  go_wp2_with fail
  refine (within4_any n 7 _ (by omega) (by omega)).mono ?_
  rintro e wl ⟨rfl, rfl⟩
  obtain ⟨m, hm⟩ : ∃ m, m = 6 + n % 7 := ⟨_, rfl⟩
  have m1 : 6 ≤ m := by omega
  have m2 : m ≤ 12 := by omega
  have z1 : IntKind.i64.wrap (6 + n % 7) = m := by rw [hm]; exact wrap_in _ (by omega) (by omega)
  clear hm
  go_wp2_with fail
  refine (within4_any a m _ (by omega) (by omega)).mono ?_
  rintro e wl ⟨rfl, rfl⟩
  have q1 : 0 ≤ a % m := Int.emod_nonneg _ (by omega)
  have q2 : a % m < m := Int.emod_lt_of_pos _ (by omega)
  generalize a % m = x at *
  cases two <;> cases up
  · have hok : OwnersOk m [x] := ⟨x, q1, q2, .inl rfl⟩
    have hown : OwnI wn.heap.size (wn.alloc (.cells #[.int .i64 x] 3)) (.slice (some ⟨wn.heap.size, 0, none⟩) 1 1) [x] := OwnI.lit wn [x] wn.heap.size (Nat.le_refl _) (by simp)
    have hBo := hB.alloc hB.size (.cells #[.int .i64 x] 3)
    have hsz := hB.size
    have hO : ∀ y, (some ⟨wn.heap.size, 0, none⟩ : Option Addr) = some y → y.block < (wn.alloc (.cells #[.int .i64 x] 3)).heap.size := fun y hy => by injection hy with hy; rw [← hy]; simp
    have hrow := hown.row (by simp) (by simp; omega)
    go_wp2_with fail
    generalize wn.alloc (.cells #[.int .i64 x] 3) = wo at *
    clear hown hB hsz
    obtain ⟨o1, o2, o3⟩ := owners_in m [x] (by omega) hok
    obtain ⟨L, hL⟩ : ∃ L, wayI m [x] (-1) = L := ⟨_, rfl⟩
    obtain ⟨M, hM⟩ : ∃ M, wayI m [x] 1 = M := ⟨_, rfl⟩
    obtain ⟨p1, p2, p3⟩ := wayOk_parts m [x] (-1) 1 L M hL hM (by omega) (wayOk_any m [x] (-1) m1 m2 hok (by omega))
    have F1 := Lib.hid (wayI_wayR m [x] (-1) m1 m2 hok (by omega))
    have W1 := Lib.hid (fun W => gWay_any m (some ⟨wn.heap.size, 0, none⟩) [x] 1 (-1) W (by omega) m2 (by omega))
    have W2 := Lib.hid (fun W => gWay_any m (some ⟨wn.heap.size, 0, none⟩) [x] 1 1 W (by omega) m2 (by omega))
    have W3 := Lib.hid (fun W h => rWay_any m (some ⟨wn.heap.size, 0, none⟩) [x] 1 (-1) W (by omega) m2 (by omega) h o1 (by simp; omega) o3)
    rw [← F1.out] at W3
    have B1 := Lib.hid (wayI_in m [x] (-1) (by omega))
    rw [hL] at W1 W3 B1
    rw [hM] at W2
    clear F1 hok hL hM
    have dl : ((L.length : Int) != m - 1) = false := by rw [p1]; simp
    have dm : ((M.length : Int) != (L.length : Int)) = false := by rw [p2]; simp
    have l0 : 0 < L.length := by simp at p1; omega
    have l1 : L.length ≤ 12 := by simp at p1; omega
    have l2 : M.length ≤ 12 := by omega
    have l3 : 0 < M.length := by omega
    have P2 := Lib.hid p2
    have P3 := Lib.hid p3
    clear p1 p2 p3
    refine (W1.out _ hrow hO o3).mono ?_
    rintro e wa ⟨al, cl, rfl, hl, hal, hb⟩
    replace hBo := hBo.trans (hb.mono hBo.size)
    replace hrow := hrow.later hb
    replace hO := fun y hy => Nat.lt_of_lt_of_le (hO y hy) hb.size
    clear hal hb
    go_wp2_with fail
    refine (W2.out _ hrow hO o3).mono ?_
    rintro e wb ⟨am, cm, rfl, hm, ham, hb⟩
    replace hBo := hBo.trans (hb.mono hBo.size)
    replace hrow := hrow.later hb
    replace hl := hl.later hb
    replace hO := fun y hy => Nat.lt_of_lt_of_le (hO y hy) hb.size
    clear ham hb
    go_wp2_with fail
    refine (W3.out _ hrow).mono ?_
    rintro e wc ⟨ar, cr, rfl, hr, har, hb⟩
    replace hBo := hBo.trans (hb.mono hBo.size)
    replace hrow := hrow.later hb
    replace hl := hl.later hb
    replace hm := hm.later hb
    clear har hb
    go_wp2_with fail
    refine (rsame_any al ar L L cl cr _ hl hr).mono ?_
    rintro e wd ⟨rfl, hb⟩
    replace hBo := hBo.trans (hb.mono hBo.size)
    replace hrow := hrow.later hb
    replace hl := hl.later hb
    replace hm := hm.later hb
    clear hr hb
    rw [show (L == L) = true by simp]
    go_wp2_with fail
    refine (gWay_any m none [] 0 (-1) _ (by omega) m2 (by omega) (Row.empty _ _) (fun y hy => by cases hy) (by simp)).mono ?_
    rintro e we ⟨an, cn, rfl, hn, han, hb⟩
    replace hBo := hBo.trans (hb.mono hBo.size)
    replace hrow := hrow.later hb
    replace hl := hl.later hb
    replace hm := hm.later hb
    clear hn han hb
    rw [wayI_nil]
    clear W1 W2 W3
    obtain ⟨b1, f1, rfl, hb1, hc1⟩ := hl.all l0
    obtain ⟨b2, f2, rfl, hb2, hc2⟩ := hm.all l3
    have C1 := Lib.hid hc1
    have C2 := Lib.hid hc2
    clear hc1 hc2 hl hm
    go_wp2
    go_loopw [13] (fun k w' => ∃ j : Nat, j ≤ L.length ∧ k = .int .i64 j ∧ Below we.heap.size we w') (fun k _ => 12 - (intOf k).toNat)
    case atStart => exact ⟨0, by omega, rfl, Below.refl _ _⟩
    case round =>
      obtain ⟨j, hj, rfl, hb⟩ := hrel
      by_cases hlt : j < L.length
      · have d1 : decide (j < L.length) = true := by simpa using hlt
        have hlt2 : M.length - 1 - j < M.length := by omega
        have c1 := (hb.cell (p := ⟨b1, f1 + j, none⟩) hb1).trans (C1.out j hlt)
        have c2 := (hb.cell (p := ⟨b2, f2 + (M.length - 1 - j), none⟩) hb2).trans (C2.out _ hlt2)
        have r1 := hrow.later hb
        obtain ⟨g1, g2, g3⟩ := P3.out j hlt hlt2
        rw [← g1] at c2
        have z2 := wrap_pred M.length l3 (by omega)
        have z3 := wrap_less (M.length - 1) j (by have := P2.out; omega) (by omega)
        have HI := Lib.hid (fun W h => rin_any (some ⟨wn.heap.size, 0, none⟩) [x] 1 L[j] W h)
        rw [g2] at HI
        clear g1 g2
        by_cases h0 : j = 0
        · have dk : decide (0 < j) = false := by simp; omega
          clear g3 h0
          generalize L[j] = u at *
          go_wp2_with fail
          go_quiet (first
            | (go_at_call 22; refine quiet_same (HI.out _ (r1.drewN _)))
            | fail)
          go_wp2
          go_roundw
          case rel => exact ⟨j + 1, by omega, by go_num, below_drewN hb _⟩
          case measure => simp [intOf]; omega
        · have dk : decide (0 < j) = true := by simp; omega
          obtain ⟨hp, g4⟩ : ∃ hp : j - 1 < L.length, L[j] = (L[j - 1] + (-1)) % m := by
            rcases g3 with g3 | g3
            · exact absurd g3 h0
            · exact g3
          have c3 := (hb.cell (p := ⟨b1, f1 + (j - 1), none⟩) hb1).trans (C1.out (j - 1) hp)
          obtain ⟨v1, v2⟩ := B1.out _ (List.getElem_mem hp)
          have z4 := wrap_pred j (by omega) (by omega)
          have HA := Lib.hid (fun W => rAt_any m L[j - 1] (-1) W (by omega) (by omega) (by omega) (by omega) (by omega) (by omega))
          rw [← g4] at HA
          clear g3 g4 h0
          generalize L[j - 1] = v at *
          generalize L[j] = u at *
          go_wp2_with fail
          go_quiet (first
            | (go_at_call 22; refine quiet_same (HI.out _ (r1.drewN _)))
            | (go_at_call 16; refine quiet_same (HA.out _)))
          go_wp2
          go_roundw
          case rel => exact ⟨j + 1, by omega, by go_num, below_drewN hb _⟩
          case measure => simp [intOf]; omega
      · have d1 : decide (j < L.length) = false := by simpa using hlt
        go_wp2
        go_ret
        exact ⟨rfl, hBo.trans (hb.mono hBo.size)⟩
  · have hok : OwnersOk m [x] := ⟨x, q1, q2, .inl rfl⟩
    have hown : OwnI wn.heap.size (wn.alloc (.cells #[.int .i64 x] 3)) (.slice (some ⟨wn.heap.size, 0, none⟩) 1 1) [x] := OwnI.lit wn [x] wn.heap.size (Nat.le_refl _) (by simp)
    have hBo := hB.alloc hB.size (.cells #[.int .i64 x] 3)
    have hsz := hB.size
    have hO : ∀ y, (some ⟨wn.heap.size, 0, none⟩ : Option Addr) = some y → y.block < (wn.alloc (.cells #[.int .i64 x] 3)).heap.size := fun y hy => by injection hy with hy; rw [← hy]; simp
    have hrow := hown.row (by simp) (by simp; omega)
    go_wp2_with fail
    generalize wn.alloc (.cells #[.int .i64 x] 3) = wo at *
    clear hown hB hsz
    obtain ⟨o1, o2, o3⟩ := owners_in m [x] (by omega) hok
    obtain ⟨L, hL⟩ : ∃ L, wayI m [x] 1 = L := ⟨_, rfl⟩
    obtain ⟨M, hM⟩ : ∃ M, wayI m [x] (-1) = M := ⟨_, rfl⟩
    obtain ⟨p1, p2, p3⟩ := wayOk_parts m [x] 1 (-1) L M hL hM (by omega) (wayOk_any m [x] 1 m1 m2 hok (by omega))
    have F1 := Lib.hid (wayI_wayR m [x] 1 m1 m2 hok (by omega))
    have W1 := Lib.hid (fun W => gWay_any m (some ⟨wn.heap.size, 0, none⟩) [x] 1 1 W (by omega) m2 (by omega))
    have W2 := Lib.hid (fun W => gWay_any m (some ⟨wn.heap.size, 0, none⟩) [x] 1 (-1) W (by omega) m2 (by omega))
    have W3 := Lib.hid (fun W h => rWay_any m (some ⟨wn.heap.size, 0, none⟩) [x] 1 1 W (by omega) m2 (by omega) h o1 (by simp; omega) o3)
    rw [← F1.out] at W3
    have B1 := Lib.hid (wayI_in m [x] 1 (by omega))
    rw [hL] at W1 W3 B1
    rw [hM] at W2
    clear F1 hok hL hM
    have dl : ((L.length : Int) != m - 1) = false := by rw [p1]; simp
    have dm : ((M.length : Int) != (L.length : Int)) = false := by rw [p2]; simp
    have l0 : 0 < L.length := by simp at p1; omega
    have l1 : L.length ≤ 12 := by simp at p1; omega
    have l2 : M.length ≤ 12 := by omega
    have l3 : 0 < M.length := by omega
    have P2 := Lib.hid p2
    have P3 := Lib.hid p3
    clear p1 p2 p3
    refine (W1.out _ hrow hO o3).mono ?_
    rintro e wa ⟨al, cl, rfl, hl, hal, hb⟩
    replace hBo := hBo.trans (hb.mono hBo.size)
    replace hrow := hrow.later hb
    replace hO := fun y hy => Nat.lt_of_lt_of_le (hO y hy) hb.size
    clear hal hb
    go_wp2_with fail
    refine (W2.out _ hrow hO o3).mono ?_
    rintro e wb ⟨am, cm, rfl, hm, ham, hb⟩
    replace hBo := hBo.trans (hb.mono hBo.size)
    replace hrow := hrow.later hb
    replace hl := hl.later hb
    replace hO := fun y hy => Nat.lt_of_lt_of_le (hO y hy) hb.size
    clear ham hb
    go_wp2_with fail
    refine (W3.out _ hrow).mono ?_
    rintro e wc ⟨ar, cr, rfl, hr, har, hb⟩
    replace hBo := hBo.trans (hb.mono hBo.size)
    replace hrow := hrow.later hb
    replace hl := hl.later hb
    replace hm := hm.later hb
    clear har hb
    go_wp2_with fail
    refine (rsame_any al ar L L cl cr _ hl hr).mono ?_
    rintro e wd ⟨rfl, hb⟩
    replace hBo := hBo.trans (hb.mono hBo.size)
    replace hrow := hrow.later hb
    replace hl := hl.later hb
    replace hm := hm.later hb
    clear hr hb
    rw [show (L == L) = true by simp]
    go_wp2_with fail
    refine (gWay_any m none [] 0 1 _ (by omega) m2 (by omega) (Row.empty _ _) (fun y hy => by cases hy) (by simp)).mono ?_
    rintro e we ⟨an, cn, rfl, hn, han, hb⟩
    replace hBo := hBo.trans (hb.mono hBo.size)
    replace hrow := hrow.later hb
    replace hl := hl.later hb
    replace hm := hm.later hb
    clear hn han hb
    rw [wayI_nil]
    clear W1 W2 W3
    obtain ⟨b1, f1, rfl, hb1, hc1⟩ := hl.all l0
    obtain ⟨b2, f2, rfl, hb2, hc2⟩ := hm.all l3
    have C1 := Lib.hid hc1
    have C2 := Lib.hid hc2
    clear hc1 hc2 hl hm
    go_wp2
    go_loopw [13] (fun k w' => ∃ j : Nat, j ≤ L.length ∧ k = .int .i64 j ∧ Below we.heap.size we w') (fun k _ => 12 - (intOf k).toNat)
    case atStart => exact ⟨0, by omega, rfl, Below.refl _ _⟩
    case round =>
      obtain ⟨j, hj, rfl, hb⟩ := hrel
      by_cases hlt : j < L.length
      · have d1 : decide (j < L.length) = true := by simpa using hlt
        have hlt2 : M.length - 1 - j < M.length := by omega
        have c1 := (hb.cell (p := ⟨b1, f1 + j, none⟩) hb1).trans (C1.out j hlt)
        have c2 := (hb.cell (p := ⟨b2, f2 + (M.length - 1 - j), none⟩) hb2).trans (C2.out _ hlt2)
        have r1 := hrow.later hb
        obtain ⟨g1, g2, g3⟩ := P3.out j hlt hlt2
        rw [← g1] at c2
        have z2 := wrap_pred M.length l3 (by omega)
        have z3 := wrap_less (M.length - 1) j (by have := P2.out; omega) (by omega)
        have HI := Lib.hid (fun W h => rin_any (some ⟨wn.heap.size, 0, none⟩) [x] 1 L[j] W h)
        rw [g2] at HI
        clear g1 g2
        by_cases h0 : j = 0
        · have dk : decide (0 < j) = false := by simp; omega
          clear g3 h0
          generalize L[j] = u at *
          go_wp2_with fail
          go_quiet (first
            | (go_at_call 22; refine quiet_same (HI.out _ (r1.drewN _)))
            | fail)
          go_wp2
          go_roundw
          case rel => exact ⟨j + 1, by omega, by go_num, below_drewN hb _⟩
          case measure => simp [intOf]; omega
        · have dk : decide (0 < j) = true := by simp; omega
          obtain ⟨hp, g4⟩ : ∃ hp : j - 1 < L.length, L[j] = (L[j - 1] + 1) % m := by
            rcases g3 with g3 | g3
            · exact absurd g3 h0
            · exact g3
          have c3 := (hb.cell (p := ⟨b1, f1 + (j - 1), none⟩) hb1).trans (C1.out (j - 1) hp)
          obtain ⟨v1, v2⟩ := B1.out _ (List.getElem_mem hp)
          have z4 := wrap_pred j (by omega) (by omega)
          have HA := Lib.hid (fun W => rAt_any m L[j - 1] 1 W (by omega) (by omega) (by omega) (by omega) (by omega) (by omega))
          rw [← g4] at HA
          clear g3 g4 h0
          generalize L[j - 1] = v at *
          generalize L[j] = u at *
          go_wp2_with fail
          go_quiet (first
            | (go_at_call 22; refine quiet_same (HI.out _ (r1.drewN _)))
            | (go_at_call 16; refine quiet_same (HA.out _)))
          go_wp2
          go_roundw
          case rel => exact ⟨j + 1, by omega, by go_num, below_drewN hb _⟩
          case measure => simp [intOf]; omega
      · have d1 : decide (j < L.length) = false := by simpa using hlt
        go_wp2
        go_ret
        exact ⟨rfl, hBo.trans (hb.mono hBo.size)⟩
  · have e1 : 0 ≤ (x + 1) % m := Int.emod_nonneg _ (by omega)
    have e2 : (x + 1) % m < m := Int.emod_lt_of_pos _ (by omega)
    have hok : OwnersOk m [x, (x + 1) % m] := ⟨x, q1, q2, .inr rfl⟩
    have hown : OwnI wn.heap.size (wn.alloc (.cells #[.int .i64 x] 3)) (.slice (some ⟨wn.heap.size, 0, none⟩) 1 1) [x] := OwnI.lit wn [x] wn.heap.size (Nat.le_refl _) (by simp)
    have hBo := hB.alloc hB.size (.cells #[.int .i64 x] 3)
    have hsz := hB.size
    go_wp2_with (at_builtin; refine wpList_app1 _ rfl _ _ rfl wn.heap.size (.slice (some ⟨wn.heap.size, 0, none⟩) 1 1) [x] rfl (hown.later (alloc_below _ _)) (wn.heap.size + 1) 1 ((x + 1) % m) rfl (by simpa using heap_alloc_new (wn.alloc _) _) (by simp) (by simp; omega) ?_; intro g cap' wo h1' h2' h3' h4')
    replace hBo := below_grown (hBo.alloc (by simp; omega) _) (by simp; omega) h2' (fun g hg => by injection hg with hg; rw [← hg]; exact hsz)
    replace hown : OwnI wn.heap.size wo (.slice (some ⟨g, 0, none⟩) 2 cap') [x, (x + 1) % m] := h1'
    have hO : ∀ y, (some ⟨g, 0, none⟩ : Option Addr) = some y → y.block < wo.heap.size := fun y hy => by injection hy with hy; rw [← hy]; exact h4'
    clear h1' h2' h3' h4'
    have hrow := hown.row (by simp) (by simp; omega)
    clear hown hB hsz
    obtain ⟨o1, o2, o3⟩ := owners_in m [x, (x + 1) % m] (by omega) hok
    obtain ⟨L, hL⟩ : ∃ L, wayI m [x, (x + 1) % m] (-1) = L := ⟨_, rfl⟩
    obtain ⟨M, hM⟩ : ∃ M, wayI m [x, (x + 1) % m] 1 = M := ⟨_, rfl⟩
    obtain ⟨p1, p2, p3⟩ := wayOk_parts m [x, (x + 1) % m] (-1) 1 L M hL hM (by omega) (wayOk_any m [x, (x + 1) % m] (-1) m1 m2 hok (by omega))
    have F1 := Lib.hid (wayI_wayR m [x, (x + 1) % m] (-1) m1 m2 hok (by omega))
    have W1 := Lib.hid (fun W => gWay_any m (some ⟨g, 0, none⟩) [x, (x + 1) % m] cap' (-1) W (by omega) m2 (by omega))
    have W2 := Lib.hid (fun W => gWay_any m (some ⟨g, 0, none⟩) [x, (x + 1) % m] cap' 1 W (by omega) m2 (by omega))
    have W3 := Lib.hid (fun W h => rWay_any m (some ⟨g, 0, none⟩) [x, (x + 1) % m] cap' (-1) W (by omega) m2 (by omega) h o1 (by simp; omega) o3)
    rw [← F1.out] at W3
    have B1 := Lib.hid (wayI_in m [x, (x + 1) % m] (-1) (by omega))
    rw [hL] at W1 W3 B1
    rw [hM] at W2
    clear F1 hok hL hM
    have dl : ((L.length : Int) != m - 2) = false := by rw [p1]; simp
    have dm : ((M.length : Int) != (L.length : Int)) = false := by rw [p2]; simp
    have l0 : 0 < L.length := by simp at p1; omega
    have l1 : L.length ≤ 12 := by simp at p1; omega
    have l2 : M.length ≤ 12 := by omega
    have l3 : 0 < M.length := by omega
    have P2 := Lib.hid p2
    have P3 := Lib.hid p3
    clear p1 p2 p3
    refine (W1.out _ hrow hO o3).mono ?_
    rintro e wa ⟨al, cl, rfl, hl, hal, hb⟩
    replace hBo := hBo.trans (hb.mono hBo.size)
    replace hrow := hrow.later hb
    replace hO := fun y hy => Nat.lt_of_lt_of_le (hO y hy) hb.size
    clear hal hb
    go_wp2_with fail
    refine (W2.out _ hrow hO o3).mono ?_
    rintro e wb ⟨am, cm, rfl, hm, ham, hb⟩
    replace hBo := hBo.trans (hb.mono hBo.size)
    replace hrow := hrow.later hb
    replace hl := hl.later hb
    replace hO := fun y hy => Nat.lt_of_lt_of_le (hO y hy) hb.size
    clear ham hb
    go_wp2_with fail
    refine (W3.out _ hrow).mono ?_
    rintro e wc ⟨ar, cr, rfl, hr, har, hb⟩
    replace hBo := hBo.trans (hb.mono hBo.size)
    replace hrow := hrow.later hb
    replace hl := hl.later hb
    replace hm := hm.later hb
    clear har hb
    go_wp2_with fail
    refine (rsame_any al ar L L cl cr _ hl hr).mono ?_
    rintro e wd ⟨rfl, hb⟩
    replace hBo := hBo.trans (hb.mono hBo.size)
    replace hrow := hrow.later hb
    replace hl := hl.later hb
    replace hm := hm.later hb
    clear hr hb
    rw [show (L == L) = true by simp]
    go_wp2_with fail
    refine (gWay_any m none [] 0 (-1) _ (by omega) m2 (by omega) (Row.empty _ _) (fun y hy => by cases hy) (by simp)).mono ?_
    rintro e we ⟨an, cn, rfl, hn, han, hb⟩
    replace hBo := hBo.trans (hb.mono hBo.size)
    replace hrow := hrow.later hb
    replace hl := hl.later hb
    replace hm := hm.later hb
    clear hn han hb
    rw [wayI_nil]
    clear W1 W2 W3
    obtain ⟨b1, f1, rfl, hb1, hc1⟩ := hl.all l0
    obtain ⟨b2, f2, rfl, hb2, hc2⟩ := hm.all l3
    have C1 := Lib.hid hc1
    have C2 := Lib.hid hc2
    clear hc1 hc2 hl hm
    go_wp2
    go_loopw [13] (fun k w' => ∃ j : Nat, j ≤ L.length ∧ k = .int .i64 j ∧ Below we.heap.size we w') (fun k _ => 12 - (intOf k).toNat)
    case atStart => exact ⟨0, by omega, rfl, Below.refl _ _⟩
    case round =>
      obtain ⟨j, hj, rfl, hb⟩ := hrel
      by_cases hlt : j < L.length
      · have d1 : decide (j < L.length) = true := by simpa using hlt
        have hlt2 : M.length - 1 - j < M.length := by omega
        have c1 := (hb.cell (p := ⟨b1, f1 + j, none⟩) hb1).trans (C1.out j hlt)
        have c2 := (hb.cell (p := ⟨b2, f2 + (M.length - 1 - j), none⟩) hb2).trans (C2.out _ hlt2)
        have r1 := hrow.later hb
        obtain ⟨g1, g2, g3⟩ := P3.out j hlt hlt2
        rw [← g1] at c2
        have z2 := wrap_pred M.length l3 (by omega)
        have z3 := wrap_less (M.length - 1) j (by have := P2.out; omega) (by omega)
        have HI := Lib.hid (fun W h => rin_any (some ⟨g, 0, none⟩) [x, (x + 1) % m] cap' L[j] W h)
        rw [g2] at HI
        clear g1 g2
        by_cases h0 : j = 0
        · have dk : decide (0 < j) = false := by simp; omega
          clear g3 h0
          generalize L[j] = u at *
          go_wp2_with fail
          go_quiet (first
            | (go_at_call 22; refine quiet_same (HI.out _ (r1.drewN _)))
            | fail)
          go_wp2
          go_roundw
          case rel => exact ⟨j + 1, by omega, by go_num, below_drewN hb _⟩
          case measure => simp [intOf]; omega
        · have dk : decide (0 < j) = true := by simp; omega
          obtain ⟨hp, g4⟩ : ∃ hp : j - 1 < L.length, L[j] = (L[j - 1] + (-1)) % m := by
            rcases g3 with g3 | g3
            · exact absurd g3 h0
            · exact g3
          have c3 := (hb.cell (p := ⟨b1, f1 + (j - 1), none⟩) hb1).trans (C1.out (j - 1) hp)
          obtain ⟨v1, v2⟩ := B1.out _ (List.getElem_mem hp)
          have z4 := wrap_pred j (by omega) (by omega)
          have HA := Lib.hid (fun W => rAt_any m L[j - 1] (-1) W (by omega) (by omega) (by omega) (by omega) (by omega) (by omega))
          rw [← g4] at HA
          clear g3 g4 h0
          generalize L[j - 1] = v at *
          generalize L[j] = u at *
          go_wp2_with fail
          go_quiet (first
            | (go_at_call 22; refine quiet_same (HI.out _ (r1.drewN _)))
            | (go_at_call 16; refine quiet_same (HA.out _)))
          go_wp2
          go_roundw
          case rel => exact ⟨j + 1, by omega, by go_num, below_drewN hb _⟩
          case measure => simp [intOf]; omega
      · have d1 : decide (j < L.length) = false := by simpa using hlt
        go_wp2
        go_ret
        exact ⟨rfl, hBo.trans (hb.mono hBo.size)⟩
  · have e1 : 0 ≤ (x + 1) % m := Int.emod_nonneg _ (by omega)
    have e2 : (x + 1) % m < m := Int.emod_lt_of_pos _ (by omega)
    have hok : OwnersOk m [x, (x + 1) % m] := ⟨x, q1, q2, .inr rfl⟩
    have hown : OwnI wn.heap.size (wn.alloc (.cells #[.int .i64 x] 3)) (.slice (some ⟨wn.heap.size, 0, none⟩) 1 1) [x] := OwnI.lit wn [x] wn.heap.size (Nat.le_refl _) (by simp)
    have hBo := hB.alloc hB.size (.cells #[.int .i64 x] 3)
    have hsz := hB.size
    go_wp2_with (at_builtin; refine wpList_app1 _ rfl _ _ rfl wn.heap.size (.slice (some ⟨wn.heap.size, 0, none⟩) 1 1) [x] rfl (hown.later (alloc_below _ _)) (wn.heap.size + 1) 1 ((x + 1) % m) rfl (by simpa using heap_alloc_new (wn.alloc _) _) (by simp) (by simp; omega) ?_; intro g cap' wo h1' h2' h3' h4')
    replace hBo := below_grown (hBo.alloc (by simp; omega) _) (by simp; omega) h2' (fun g hg => by injection hg with hg; rw [← hg]; exact hsz)
    replace hown : OwnI wn.heap.size wo (.slice (some ⟨g, 0, none⟩) 2 cap') [x, (x + 1) % m] := h1'
    have hO : ∀ y, (some ⟨g, 0, none⟩ : Option Addr) = some y → y.block < wo.heap.size := fun y hy => by injection hy with hy; rw [← hy]; exact h4'
    clear h1' h2' h3' h4'
    have hrow := hown.row (by simp) (by simp; omega)
    clear hown hB hsz
    obtain ⟨o1, o2, o3⟩ := owners_in m [x, (x + 1) % m] (by omega) hok
    obtain ⟨L, hL⟩ : ∃ L, wayI m [x, (x + 1) % m] 1 = L := ⟨_, rfl⟩
    obtain ⟨M, hM⟩ : ∃ M, wayI m [x, (x + 1) % m] (-1) = M := ⟨_, rfl⟩
    obtain ⟨p1, p2, p3⟩ := wayOk_parts m [x, (x + 1) % m] 1 (-1) L M hL hM (by omega) (wayOk_any m [x, (x + 1) % m] 1 m1 m2 hok (by omega))
    have F1 := Lib.hid (wayI_wayR m [x, (x + 1) % m] 1 m1 m2 hok (by omega))
    have W1 := Lib.hid (fun W => gWay_any m (some ⟨g, 0, none⟩) [x, (x + 1) % m] cap' 1 W (by omega) m2 (by omega))
    have W2 := Lib.hid (fun W => gWay_any m (some ⟨g, 0, none⟩) [x, (x + 1) % m] cap' (-1) W (by omega) m2 (by omega))
    have W3 := Lib.hid (fun W h => rWay_any m (some ⟨g, 0, none⟩) [x, (x + 1) % m] cap' 1 W (by omega) m2 (by omega) h o1 (by simp; omega) o3)
    rw [← F1.out] at W3
    have B1 := Lib.hid (wayI_in m [x, (x + 1) % m] 1 (by omega))
    rw [hL] at W1 W3 B1
    rw [hM] at W2
    clear F1 hok hL hM
    have dl : ((L.length : Int) != m - 2) = false := by rw [p1]; simp
    have dm : ((M.length : Int) != (L.length : Int)) = false := by rw [p2]; simp
    have l0 : 0 < L.length := by simp at p1; omega
    have l1 : L.length ≤ 12 := by simp at p1; omega
    have l2 : M.length ≤ 12 := by omega
    have l3 : 0 < M.length := by omega
    have P2 := Lib.hid p2
    have P3 := Lib.hid p3
    clear p1 p2 p3
    refine (W1.out _ hrow hO o3).mono ?_
    rintro e wa ⟨al, cl, rfl, hl, hal, hb⟩
    replace hBo := hBo.trans (hb.mono hBo.size)
    replace hrow := hrow.later hb
    replace hO := fun y hy => Nat.lt_of_lt_of_le (hO y hy) hb.size
    clear hal hb
    go_wp2_with fail
    refine (W2.out _ hrow hO o3).mono ?_
    rintro e wb ⟨am, cm, rfl, hm, ham, hb⟩
    replace hBo := hBo.trans (hb.mono hBo.size)
    replace hrow := hrow.later hb
    replace hl := hl.later hb
    replace hO := fun y hy => Nat.lt_of_lt_of_le (hO y hy) hb.size
    clear ham hb
    go_wp2_with fail
    refine (W3.out _ hrow).mono ?_
    rintro e wc ⟨ar, cr, rfl, hr, har, hb⟩
    replace hBo := hBo.trans (hb.mono hBo.size)
    replace hrow := hrow.later hb
    replace hl := hl.later hb
    replace hm := hm.later hb
    clear har hb
    go_wp2_with fail
    refine (rsame_any al ar L L cl cr _ hl hr).mono ?_
    rintro e wd ⟨rfl, hb⟩
    replace hBo := hBo.trans (hb.mono hBo.size)
    replace hrow := hrow.later hb
    replace hl := hl.later hb
    replace hm := hm.later hb
    clear hr hb
    rw [show (L == L) = true by simp]
    go_wp2_with fail
    refine (gWay_any m none [] 0 1 _ (by omega) m2 (by omega) (Row.empty _ _) (fun y hy => by cases hy) (by simp)).mono ?_
    rintro e we ⟨an, cn, rfl, hn, han, hb⟩
    replace hBo := hBo.trans (hb.mono hBo.size)
    replace hrow := hrow.later hb
    replace hl := hl.later hb
    replace hm := hm.later hb
    clear hn han hb
    rw [wayI_nil]
    clear W1 W2 W3
    obtain ⟨b1, f1, rfl, hb1, hc1⟩ := hl.all l0
    obtain ⟨b2, f2, rfl, hb2, hc2⟩ := hm.all l3
    have C1 := Lib.hid hc1
    have C2 := Lib.hid hc2
    clear hc1 hc2 hl hm
    go_wp2
    go_loopw [13] (fun k w' => ∃ j : Nat, j ≤ L.length ∧ k = .int .i64 j ∧ Below we.heap.size we w') (fun k _ => 12 - (intOf k).toNat)
    case atStart => exact ⟨0, by omega, rfl, Below.refl _ _⟩
    case round =>
      obtain ⟨j, hj, rfl, hb⟩ := hrel
      by_cases hlt : j < L.length
      · have d1 : decide (j < L.length) = true := by simpa using hlt
        have hlt2 : M.length - 1 - j < M.length := by omega
        have c1 := (hb.cell (p := ⟨b1, f1 + j, none⟩) hb1).trans (C1.out j hlt)
        have c2 := (hb.cell (p := ⟨b2, f2 + (M.length - 1 - j), none⟩) hb2).trans (C2.out _ hlt2)
        have r1 := hrow.later hb
        obtain ⟨g1, g2, g3⟩ := P3.out j hlt hlt2
        rw [← g1] at c2
        have z2 := wrap_pred M.length l3 (by omega)
        have z3 := wrap_less (M.length - 1) j (by have := P2.out; omega) (by omega)
        have HI := Lib.hid (fun W h => rin_any (some ⟨g, 0, none⟩) [x, (x + 1) % m] cap' L[j] W h)
        rw [g2] at HI
        clear g1 g2
        by_cases h0 : j = 0
        · have dk : decide (0 < j) = false := by simp; omega
          clear g3 h0
          generalize L[j] = u at *
          go_wp2_with fail
          go_quiet (first
            | (go_at_call 22; refine quiet_same (HI.out _ (r1.drewN _)))
            | fail)
          go_wp2
          go_roundw
          case rel => exact ⟨j + 1, by omega, by go_num, below_drewN hb _⟩
          case measure => simp [intOf]; omega
        · have dk : decide (0 < j) = true := by simp; omega
          obtain ⟨hp, g4⟩ : ∃ hp : j - 1 < L.length, L[j] = (L[j - 1] + 1) % m := by
            rcases g3 with g3 | g3
            · exact absurd g3 h0
            · exact g3
          have c3 := (hb.cell (p := ⟨b1, f1 + (j - 1), none⟩) hb1).trans (C1.out (j - 1) hp)
          obtain ⟨v1, v2⟩ := B1.out _ (List.getElem_mem hp)
          have z4 := wrap_pred j (by omega) (by omega)
          have HA := Lib.hid (fun W => rAt_any m L[j - 1] 1 W (by omega) (by omega) (by omega) (by omega) (by omega) (by omega))
          rw [← g4] at HA
          clear g3 g4 h0
          generalize L[j - 1] = v at *
          generalize L[j] = u at *
          go_wp2_with fail
          go_quiet (first
            | (go_at_call 22; refine quiet_same (HI.out _ (r1.drewN _)))
            | (go_at_call 16; refine quiet_same (HA.out _)))
          go_wp2
          go_roundw
          case rel => exact ⟨j + 1, by omega, by go_num, below_drewN hb _⟩
          case measure => simp [intOf]; omega
      · have d1 : decide (j < L.length) = false := by simpa using hlt
        go_wp2
        go_ret
        exact ⟨rfl, hBo.trans (hb.mono hBo.size)⟩

end Go.Proofs.Ytlchfknfmjddiaa
