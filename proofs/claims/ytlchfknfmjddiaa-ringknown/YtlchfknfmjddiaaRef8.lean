/-
  Contracts of plaitingref4: what the document's own chapter 4 answers of rings.
-/
import Derived.Test.YtlchfknfmjddiaaRef5
import Derived.Test.YtlchfknfmjddiaaDev8
namespace Go.Proofs.Ytlchfknfmjddiaa
open Go.RowKit Plait
set_option linter.unusedVariables false

theorem rrest_any (a n : Int) (w : World) (hn : 0 < n) (hn2 : n ≤ 1099511627776) :
    Calls Try.prog 26 #[.int .i64 a, .int .i64 n] w fun e w' => e = .returned (.int .i64 (a % n)) ∧ w = w' := by
  have b1 : 0 ≤ a % n := Int.emod_nonneg _ (by omega)
  have b2 : a % n < n := Int.emod_lt_of_pos _ hn
  by_cases h0 : 0 ≤ a
  · go_enter Try.func26, Try.ntmps26
    go_wp2
    go_ret
    exact ⟨rfl, rfl⟩
  · have h1 : a.tmod n = -((-a) % n) := by
      rw [show a = -(-a) by omega, Int.neg_tmod, Int.tmod_eq_emod_of_nonneg (by omega)]; simp
    have c1 : 0 ≤ (-a) % n := Int.emod_nonneg _ (by omega)
    have c2 : (-a) % n < n := Int.emod_lt_of_pos _ hn
    by_cases hz : (-a) % n = 0
    · have h2 : a.tmod n = 0 := by rw [h1, hz]; rfl
      have HF := Lib.hid (show (0 : Int) = a % n by
        have : n ∣ -a := Int.dvd_of_emod_eq_zero hz
        exact (Int.emod_eq_zero_of_dvd (Int.dvd_neg.1 this)).symm)
      clear h1 hz c1 c2 b1 b2
      go_enter Try.func26, Try.ntmps26
      go_wp2
      go_ret
      exact ⟨ret_int HF.out, rfl⟩
    · obtain ⟨r, hr⟩ : ∃ r, r = (-a) % n := ⟨_, rfl⟩
      rw [← hr] at h1 c1 c2 hz
      have HF := Lib.hid (show -r + n = a % n by
        have e := Int.emod_add_mul_ediv (-a) n
        rw [← hr] at e
        have e2 : a = (-r + n) + n * (-((-a) / n) - 1) := by rw [Int.mul_sub, Int.mul_neg]; omega
        rw [e2, Int.add_mul_emod_self_left]
        exact (Int.emod_eq_of_lt (by omega) (by omega)).symm)
      clear hr b1 b2
      go_enter Try.func26, Try.ntmps26
      go_wp2
      go_ret
      exact ⟨ret_int HF.out, rfl⟩

theorem rAt_any (n i d : Int) (w : World) (hn : 0 < n) (hn2 : n ≤ 1099511627776) (h1 : -4611686018427387904 ≤ i) (h2 : i ≤ 4611686018427387903) (h3 : -4611686018427387904 ≤ d) (h4 : d ≤ 4611686018427387903) :
    Calls Try.prog 16 #[.int .i64 n, .int .i64 i, .int .i64 d] w fun e w' => e = .returned (.int .i64 ((i + d) % n)) ∧ w = w' := by
  go_enter Try.func16, Try.ntmps16
  go_wp2_with fail
  refine (rrest_any (i + d) n _ hn hn2).mono ?_
  rintro e wl ⟨rfl, rfl⟩
  go_wp2
  go_ret
  exact ⟨rfl, rfl⟩

theorem rDist_any (n a b d : Int) (w : World) (hn : 0 < n) (hn2 : n ≤ 1099511627776) (h1 : -1099511627776 ≤ a) (h2 : a ≤ 1099511627776) (h3 : -1099511627776 ≤ b) (h4 : b ≤ 1099511627776) (hd : d = 1 ∨ d = -1) :
    Calls Try.prog 18 #[.int .i64 n, .int .i64 a, .int .i64 b, .int .i64 d] w fun e w' => e = .returned (.int .i64 (distI n a b d)) ∧ w = w' := by
  rcases hd with rfl | rfl
  · have HF := Lib.hid (show (b - a) % n = distI n a b 1 by unfold distI; rw [if_neg (by omega)])
    go_enter Try.func18, Try.ntmps18
    go_wp2_with fail
    refine (rrest_any _ n _ hn hn2).mono ?_
    rintro e wl ⟨rfl, rfl⟩
    go_wp2
    go_ret
    exact ⟨ret_int HF.out, rfl⟩
  · have HF := Lib.hid (show (a - b) % n = distI n a b (-1) by unfold distI; rw [if_pos (by omega)])
    go_enter Try.func18, Try.ntmps18
    go_wp2_with fail
    refine (rrest_any _ n _ hn hn2).mono ?_
    rintro e wl ⟨rfl, rfl⟩
    go_wp2
    go_ret
    exact ⟨ret_int (by rw [← HF.out]; congr 1; omega), rfl⟩

theorem rEnds_any (n l : Int) (w : World) (hn : 0 < n) (hn2 : n ≤ 1099511627776) (hl : 0 ≤ l) (hl2 : l ≤ 1099511627776) :
    Calls Try.prog 12 #[.int .i64 n, .int .i64 l] w fun e w' => e = .returned (.tuple #[.int .i64 (endA n l), .int .i64 (endB n l)]) ∧ Below w.heap.size w w' := by
  by_cases h : l < n
  · have HA := Lib.hid (show l = endA n l by unfold endA; rw [if_pos h])
    have HB := Lib.hid (show (l + 1) % n = endB n l by unfold endB; rw [if_pos h])
    have d1 : decide (l < n) = true := by simpa using h
    go_enter Try.func12, Try.ntmps12
    go_wp2
    go_quiet (fail)
    go_wp2
    go_ret2
    exact ⟨ret_pair HA.out HB.out, below_drewN (Below.refl _ _) _⟩
  · have HA := Lib.hid (show l - n = endA n l by unfold endA; rw [if_neg h])
    have HB := Lib.hid (show (l - n + 2) % n = endB n l by unfold endB; rw [if_neg h])
    have d1 : decide (l < n) = false := by simpa using h
    go_enter Try.func12, Try.ntmps12
    go_wp2
    go_quiet (fail)
    go_wp2
    go_ret2
    exact ⟨ret_pair HA.out HB.out, below_drewN (Below.refl _ _) _⟩

/-- The loop that looks for a link. -/
def RLinkAt (n a b : Int) (w : World) (i : Value) (w' : World) : Prop := ∃ k : Nat, (k : Int) ≤ 2 * n ∧ i = .int .i64 k ∧ Below w.heap.size w w' ∧ ∀ j : Nat, j < k → joins n a b j = false

set_option maxHeartbeats 3200000 in
theorem rLink_any (n a b : Int) (w : World) (h1 : 6 ≤ n) (h2 : n ≤ 12) :
    Calls Try.prog 14 #[.int .i64 n, .int .i64 a, .int .i64 b] w fun e w' => e = .returned (.tuple #[.int .i64 (linkI n a b).1, .bool (linkI n a b).2]) ∧ Below w.heap.size w w' := by
  have HE := Lib.hid (linkI_linkR n a b h1 h2)
  go_enter Try.func14, Try.ntmps14
  go_wp2
  go_loopw [8, 9, 10] (fun i _ _ w' => RLinkAt n a b w i w') (fun i _ _ _ => 24 - (intOf i).toNat)
  case atStart => exact ⟨0, by omega, rfl, Below.refl _ _, fun j hj => absurd hj (by omega)⟩
  case round =>
    obtain ⟨k, hk, rfl, hb, hno⟩ := hrel
    have HN := Lib.hid hno
    clear hno
    by_cases hlt : (k : Int) < 2 * n
    · have d1 : decide ((k : Int) < 2 * n) = true := by simpa using hlt
      go_wp2_with fail
      refine (rEnds_any n k _ (by omega) (by omega) (by omega) (by omega)).mono ?_
      rintro e wn ⟨rfl, hb2⟩
      replace hb := hb.trans (hb2.mono hb.size)
      clear hb2
      have HJ := Lib.hid (show joins n a b k = (endA n k == a && endB n k == b || endA n k == b && endB n k == a) from rfl)
      generalize endA n k = x at *
      generalize endB n k = y at *
      have yes : (x == a && y == b || x == b && y == a) = true → linkI n a b = ((k : Int), true) := fun h => by rw [HE.out]; exact linkR_hit n a b k hlt (by rw [HJ.out]; exact h) HN.out
      have no : (x == a && y == b || x == b && y == a) = false → ∀ j : Nat, j < k + 1 → joins n a b j = false := fun h j hj => by
        by_cases e : j = k
        · rw [e, HJ.out]; exact h
        · exact HN.out j (by omega)
      have Y := Lib.hid yes
      have O := Lib.hid no
      clear yes no
      cases c1 : (x == a) <;> cases c2 : (y == b) <;> cases c3 : (x == b) <;> cases c4 : (y == a)
      all_goals (rw [c1, c2, c3, c4] at Y O)
      all_goals first
        | (have HF := Lib.hid (Y.out rfl)
           clear Y O
           go_wp2
           go_ret2
           exact ⟨ret_found HF.out, hb⟩)
        | (have HF := Lib.hid (O.out rfl)
           clear Y O
           go_wp2
           go_roundw
           case rel => exact ⟨k + 1, by omega, by go_num, hb, HF.out⟩
           case measure => simp [intOf]; omega)
    · have d1 : decide ((k : Int) < 2 * n) = false := by simpa using hlt
      have HF := Lib.hid (show linkI n a b = (0, false) by rw [HE.out]; exact linkR_none n a b fun j hj => HN.out j (by omega))
      go_wp2
      go_ret2
      exact ⟨ret_found HF.out, hb⟩

/-- The loop that gathers a way. -/
def RWayAt (n f d : Int) (m : Nat) (w : World) (v i : Value) (w' : World) : Prop :=
  ∃ k : Nat, k ≤ m ∧ i = .int .i64 ((k : Int) + 1) ∧ Below w.heap.size w w' ∧ OwnI w.heap.size w' v (walkTo n f d k)

set_option maxHeartbeats 1600000 in
theorem rWay_any (n : Int) (O : Option Addr) (os : List Int) (oc : Nat) (d : Int) (w : World) (h1 : 0 < n) (h2 : n ≤ 12) (hd : d = 1 ∨ d = -1) (ho : Row w O os) (h0 : 0 < os.length) (hl : (os.length : Int) ≤ n) (hos : ∀ z ∈ os, 0 ≤ z ∧ z < n) :
    Calls Try.prog 21 #[.int .i64 n, .slice O os.length oc, .int .i64 d] w (RowRet (wayR n os d) w) := by
  have hlen := ho.1
  have HF := Lib.hid (show wayR n os d = walkTo n (lastI os d) d (n.toNat - os.length) by unfold wayR; rw [if_neg (by intro e; rw [e] at h0; simp at h0)])
  have d0 : ((os.length : Int) == 0) = false := by rw [beq_eq_false_iff_ne]; omega
  obtain ⟨l1, l2⟩ := lastI_in n os d h0 hos
  have HN := Lib.hid (show (n - (os.length : Int)) = ((n.toNat - os.length : Nat) : Int) by omega)
  have hm : n.toNat - os.length ≤ 12 := by omega
  have z0 : IntKind.i64.wrap (n - (os.length : Int)) = n - (os.length : Int) := wrap_in _ (by omega) (by omega)
  have hfirst : ∃ b off, O = some ⟨b, off, none⟩ ∧ b < w.heap.size ∧ w.cell? ⟨b, off, none⟩ = some (.int .i64 os[0]) ∧ w.cell? ⟨b, off + (os.length - 1), none⟩ = some (.int .i64 (os[os.length - 1])) := by
    rcases ho.2.2 with e | ⟨b, off, e, hb, hc⟩
    · rw [e] at h0; simp at h0
    · exact ⟨b, off, e, hb, hc 0 h0, hc (os.length - 1) (by omega)⟩
  obtain ⟨b, off, rfl, hbl, c1, c2⟩ := hfirst
  have z1 : IntKind.i64.wrap ((os.length : Int) - 1) = ((os.length - 1 : Nat) : Int) := by rw [wrap_in _ (by omega) (by omega)]; omega
  have hl : os.length - 1 < os.length := by omega
  have L1 := Lib.hid (fun h => lastI_neg os d h h0)
  have L2 := Lib.hid (fun h => lastI_pos os d h hl)
  generalize lastI os d = f at *
  generalize os[0] = y0 at *
  generalize os[os.length - 1] = y1 at *
  generalize hM : n.toNat - os.length = m at *
  clear hM
  rcases hd with rfl | rfl
  · have e1 : y1 = f := L2.out (by omega)
    subst e1
    clear L1 L2
    go_enter Try.func21, Try.ntmps21
    go_wp2
    go_loopw [8, 9] (fun v i w' => RWayAt n y1 1 m w v i w') (fun _ i _ => 13 - (intOf i).toNat)
    case atStart => exact ⟨0, by omega, rfl, Below.refl _ _, OwnI.nil _ _⟩
    case round =>
      obtain ⟨k, hk, rfl, hb, hown⟩ := hrel
      have c3 : ((n - (os.length : Int))) = (m : Int) := HN.out
      by_cases hlt : k < m
      · have d1 : decide ((k : Int) + 1 ≤ n - (os.length : Int)) = true := by rw [c3]; simp; omega
        clear c3
        have HS := Lib.hid (show walkTo n y1 1 (k + 1) = walkTo n y1 1 k ++ [(y1 + ((k : Int) + 1)) % n] by rw [walkTo_succ]; congr 3; omega)
        have hvl : (walkTo n y1 1 k).length ≤ 12 := by rw [walkTo_len]; omega
        obtain ⟨av, cv, rfl⟩ := hown.form
        have hol := hown.lt
        have hsz := hb.size
        go_wp2_with fail
        refine (rAt_any n y1 _ _ h1 (by omega) (by omega) (by omega) (by omega) (by omega)).mono ?_
        rintro e wl ⟨rfl, rfl⟩
        go_wp2_with (at_builtin; refine wpList_app1 _ rfl _ _ rfl w.heap.size (.slice av (walkTo n y1 1 k).length cv) (walkTo n y1 1 k) rfl (hown.later (alloc_below _ _)) wr.heap.size 1 _ rfl (heap_alloc_new _ _) (by omega) (by simp; omega) ?_; intro g cap' w2 h1' h2' h3' h4')
        have hG : ∀ g, (Value.slice av (walkTo n y1 1 k).length cv).ownBlock = some g → w.heap.size ≤ g := fun g hg => (hol g hg).1
        go_roundw
        case rel =>
          refine ⟨k + 1, by omega, by go_num, below_grown (hb.alloc hb.size _) (by simp; omega) h2' hG, ?_⟩
          rw [HS.out]
          exact h1'
        case measure => simp [intOf]; omega
      · have d1 : decide ((k : Int) + 1 ≤ n - (os.length : Int)) = false := by rw [c3]; simp; omega
        clear c3
        have HE := Lib.hid (show walkTo n y1 1 k = walkTo n y1 1 m by congr 1; omega)
        obtain ⟨av, cv, rfl⟩ := hown.form
        rw [HE.out] at hown
        go_wp2
        go_ret
        refine ⟨av, cv, by rw [HF.out, HE.out]; rfl, ?_, ?_, hb⟩
        · rw [HF.out]
          exact hown.row (by rw [walkTo_len]; omega) (fun z hz => by have := walkTo_in n y1 1 m h1 z hz; omega)
        · intro x hx
          exact (hown.lt x.block (by rw [hx]; rfl)).1
  · have e1 : y0 = f := L1.out (by omega)
    subst e1
    clear L1 L2
    go_enter Try.func21, Try.ntmps21
    go_wp2
    go_loopw [8, 9] (fun v i w' => RWayAt n y0 (-1) m w v i w') (fun _ i _ => 13 - (intOf i).toNat)
    case atStart => exact ⟨0, by omega, rfl, Below.refl _ _, OwnI.nil _ _⟩
    case round =>
      obtain ⟨k, hk, rfl, hb, hown⟩ := hrel
      have c3 : ((n - (os.length : Int))) = (m : Int) := HN.out
      by_cases hlt : k < m
      · have d1 : decide ((k : Int) + 1 ≤ n - (os.length : Int)) = true := by rw [c3]; simp; omega
        clear c3
        have HS := Lib.hid (show walkTo n y0 (-1) (k + 1) = walkTo n y0 (-1) k ++ [(y0 + -((k : Int) + 1)) % n] by rw [walkTo_succ]; congr 3; omega)
        have hvl : (walkTo n y0 (-1) k).length ≤ 12 := by rw [walkTo_len]; omega
        obtain ⟨av, cv, rfl⟩ := hown.form
        have hol := hown.lt
        have hsz := hb.size
        go_wp2_with fail
        refine (rAt_any n y0 _ _ h1 (by omega) (by omega) (by omega) (by omega) (by omega)).mono ?_
        rintro e wl ⟨rfl, rfl⟩
        go_wp2_with (at_builtin; refine wpList_app1 _ rfl _ _ rfl w.heap.size (.slice av (walkTo n y0 (-1) k).length cv) (walkTo n y0 (-1) k) rfl (hown.later (alloc_below _ _)) wr.heap.size 1 _ rfl (heap_alloc_new _ _) (by omega) (by simp; omega) ?_; intro g cap' w2 h1' h2' h3' h4')
        have hG : ∀ g, (Value.slice av (walkTo n y0 (-1) k).length cv).ownBlock = some g → w.heap.size ≤ g := fun g hg => (hol g hg).1
        go_roundw
        case rel =>
          refine ⟨k + 1, by omega, by go_num, below_grown (hb.alloc hb.size _) (by simp; omega) h2' hG, ?_⟩
          rw [HS.out]
          exact h1'
        case measure => simp [intOf]; omega
      · have d1 : decide ((k : Int) + 1 ≤ n - (os.length : Int)) = false := by rw [c3]; simp; omega
        clear c3
        have HE := Lib.hid (show walkTo n y0 (-1) k = walkTo n y0 (-1) m by congr 1; omega)
        obtain ⟨av, cv, rfl⟩ := hown.form
        rw [HE.out] at hown
        go_wp2
        go_ret
        refine ⟨av, cv, by rw [HF.out, HE.out]; rfl, ?_, ?_, hb⟩
        · rw [HF.out]
          exact hown.row (by rw [walkTo_len]; omega) (fun z hz => by have := walkTo_in n y0 (-1) m h1 z hz; omega)
        · intro x hx
          exact (hown.lt x.block (by rw [hx]; rfl)).1

end Go.Proofs.Ytlchfknfmjddiaa
