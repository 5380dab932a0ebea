/-
  Contracts of package mid.
-/
import Derived.Test.YtphjobeiindeeaaMid1
import Derived.Test.YtphjobeiindeeaaBase2
import Derived.Test.YtphjobeiindeeaaShelf
import Derived.Lib.OwnBridge
namespace Go.Proofs.Ytphjobeiindeeaa
open Go.RowKit Plait
set_option maxRecDepth 100000
set_option linter.unusedVariables false

/-- Where a row lies. -/
theorem Row.lies {w : World} {a : Option Addr} {zs : List Int} (h : Row w a zs) (h0 : 0 < zs.length) : ∃ b off : Nat, a = some ⟨b, off, none⟩ ∧ ∀ j, j < zs.length → w.cell? ⟨b, off + j, none⟩ = some (.int .i64 (zs.getD j 0)) := by
  rcases h.2.2 with e | ⟨b, off, e, _, hc⟩
  · rw [e] at h0; simp at h0
  · exact ⟨b, off, e, fun j hj => by rw [hc j hj]; simp [hj]⟩

theorem smin_any (a : Option Addr) (zs : List Int) (cap : Nat) (w : World) (hrow : Row w a zs) (h : 0 < zs.length) :
    Calls Try.prog 14 #[.slice a zs.length cap] w fun e w' => e = .returned (.int .i64 (minI zs)) ∧ w = w' := by
  obtain ⟨b, off, rfl, hc⟩ := hrow.lies h
  refine (Try.slices_Min_int b off zs.length cap zs w h (Nat.le_refl _) hrow.1 hc).mono ?_
  rintro e w' ⟨rfl, rfl⟩
  exact ⟨by rw [List.take_of_length_le (Nat.le_refl _)]; rfl, rfl⟩
theorem smax_any (a : Option Addr) (zs : List Int) (cap : Nat) (w : World) (hrow : Row w a zs) (h : 0 < zs.length) :
    Calls Try.prog 15 #[.slice a zs.length cap] w fun e w' => e = .returned (.int .i64 (maxI zs)) ∧ w = w' := by
  obtain ⟨b, off, rfl, hc⟩ := hrow.lies h
  refine (Try.slices_Max_int b off zs.length cap zs w h (Nat.le_refl _) hrow.1 hc).mono ?_
  rintro e w' ⟨rfl, rfl⟩
  exact ⟨by rw [List.take_of_length_le (Nat.le_refl _)]; rfl, rfl⟩
theorem sidx_any (a : Option Addr) (zs : List Int) (cap : Nat) (x : Int) (w : World) (hrow : Row w a zs) :
    Calls Try.prog 20 #[.slice a zs.length cap, .int .i64 x] w fun e w' => e = .returned (.int .i64 (Lib.idxOf zs x)) ∧ w = w' := by
  by_cases h : 0 < zs.length
  · obtain ⟨b, off, rfl, hc⟩ := hrow.lies h
    refine (Try.slices_Index_int b off zs.length cap zs x w (Nat.le_refl _) hrow.1 hc).mono ?_
    rintro e w' ⟨rfl, rfl⟩
    exact ⟨by rw [List.take_of_length_le (Nat.le_refl _)], rfl⟩
  · obtain rfl : zs = [] := List.eq_nil_of_length_eq_zero (by omega)
    refine (Try.slices_Index_int_empty a cap x w).mono ?_
    rintro e w' ⟨rfl, rfl⟩
    exact ⟨rfl, rfl⟩
theorem sclone_any (a : Option Addr) (zs : List Int) (cap : Nat) (w : World) (hrow : Row w a zs) (h : 0 < zs.length) (h2 : zs.length ≤ 1000000) :
    Calls Try.prog 19 #[.slice a zs.length cap] w fun e w' => ∃ v, e = .returned v ∧ OwnI w.heap.size w' v zs ∧ Below w.heap.size w w' := by
  obtain ⟨b, off, rfl, hc⟩ := hrow.lies h
  refine (Try.slices_Clone_int b off zs.length cap zs w (Nat.le_refl _) (by omega) hc).mono ?_
  rintro e w' ⟨v, rfl, ho, _, hb⟩
  refine ⟨v, rfl, ?_, hb⟩
  rw [List.take_of_length_le (Nat.le_refl _)] at ho
  exact ho
theorem sdel_any (base g cap k : Nat) (zs : List Int) (w : World) (hown : OwnI base w (.slice (some ⟨g, 0, none⟩) zs.length cap) zs) (hk : k < zs.length) :
    Calls Try.prog 21 #[.slice (some ⟨g, 0, none⟩) zs.length cap, .int .i64 k, .int .i64 ((k : Int) + 1)] w fun e w' =>
      e = .returned (.slice (some ⟨g, 0, none⟩) (zs.eraseIdx k).length cap) ∧ OwnI base w' (.slice (some ⟨g, 0, none⟩) (zs.eraseIdx k).length cap) (zs.eraseIdx k) ∧ ∀ B w0, Below B w0 w → B ≤ g → Below B w0 w' := by
  obtain ⟨g', cap', hv, hb, hlt, hn, hm, hl, hH⟩ := Lib.holds_of_ownsRow (enc := Value.int .i64) hown (by simp)
  obtain ⟨rfl, rfl⟩ : g = g' ∧ cap = cap' := by injection hv with h1 _ h3; injection h1 with h1; injection h1 with h1; exact ⟨h1, h3⟩
  have h := Try.slices_Delete_int g 0 cap k (k + 1) zs w hH hn (by unfold maxLen at hm; omega) (by omega) (by omega)
  rw [show ((k + 1 : Nat) : Int) = (k : Int) + 1 from Int.natCast_succ k] at h
  refine h.mono ?_
  rintro e w' ⟨rfl, q, rfl⟩
  have hy : (zs.take k ++ zs.drop (k + 1) ++ List.replicate (k + 1 - k) 0).length = zs.length := by simp; omega
  have ho := Lib.ownsRow_putRow (enc := Value.int .i64) (q := q) (k := zs.length - 1) (ys := zs.take k ++ zs.drop (k + 1) ++ List.replicate (k + 1 - k) 0) hown hy (by omega)
  have e1 : (zs.take k ++ zs.drop (k + 1) ++ List.replicate (k + 1 - k) 0).take (zs.length - 1) = zs.eraseIdx k := by
    rw [List.eraseIdx_eq_take_drop_succ, List.take_append_of_le_length (by simp; omega), List.take_of_length_le (by simp; omega)]
  have e2 : (zs.eraseIdx k).length = zs.length - 1 := List.length_eraseIdx_of_lt hk
  rw [e1] at ho
  refine ⟨by rw [e2, show k + 1 - k = 1 by omega], ?_, fun B w0 hB hg => Lib.below_putRow hB hg⟩
  unfold OwnI
  rw [e2]
  exact ho

theorem idxFrom_erase (x : Int) : ∀ (zs : List Int) (i : Nat), (Lib.idxFrom zs x i = -1 ∧ zs.erase x = zs) ∨ ∃ k, k < zs.length ∧ Lib.idxFrom zs x i = ((i + k : Nat) : Int) ∧ zs.erase x = zs.eraseIdx k
  | [], i => .inl ⟨rfl, rfl⟩
  | z :: zs, i => by
    by_cases h : z = x
    · subst h
      exact .inr ⟨0, by simp, by simp [Lib.idxFrom], by simp⟩
    · have he : (z :: zs).erase x = z :: zs.erase x := List.erase_cons_tail (by simpa using h)
      rcases idxFrom_erase x zs (i + 1) with ⟨h1, h2⟩ | ⟨k, h1, h2, h3⟩
      · exact .inl ⟨by simp [Lib.idxFrom, h, h1], by rw [he, h2]⟩
      · exact .inr ⟨k + 1, by simp; omega, by simp [Lib.idxFrom, h, h2]; omega, by rw [he, h3]; rfl⟩
theorem idx_erase (zs : List Int) (x : Int) : (Lib.idxOf zs x = -1 ∧ zs.erase x = zs) ∨ ∃ k : Nat, k < zs.length ∧ Lib.idxOf zs x = (k : Int) ∧ zs.erase x = zs.eraseIdx k := by
  rcases idxFrom_erase x zs 0 with h | ⟨k, h1, h2, h3⟩
  · exact .inl h
  · exact .inr ⟨k, h1, by rw [Nat.zero_add] at h2; exact h2, h3⟩

/-- A row without each of some numbers, once. -/
def delAll (zs gs : List Int) : List Int := gs.foldl (fun l x => l.erase x) zs
theorem delAll_succ (zs gs : List Int) (k : Nat) (hk : k < gs.length) : delAll zs (gs.take (k + 1)) = (delAll zs (gs.take k)).erase gs[k] := by
  unfold delAll
  rw [List.take_succ_eq_append_getElem hk, List.foldl_append]
  rfl
theorem delAll_mem {zs : List Int} {x : Int} : ∀ (gs : List Int), x ∈ delAll zs gs → x ∈ zs := by
  intro gs
  rcases List.eq_nil_or_concat gs with rfl | ⟨l, z, rfl⟩
  · exact fun h => h
  · unfold delAll
    rw [List.concat_eq_append, List.foldl_append]
    intro h
    have h2 := List.mem_of_mem_erase h
    exact delAll_mem l h2
  termination_by gs => gs.length
theorem delAll_len (zs : List Int) : ∀ (gs : List Int), (delAll zs gs).length ≤ zs.length := by
  intro gs
  rcases List.eq_nil_or_concat gs with rfl | ⟨l, z, rfl⟩
  · exact Nat.le_refl _
  · have h : delAll zs (l.concat z) = (delAll zs l).erase z := by unfold delAll; rw [List.concat_eq_append, List.foldl_append]; rfl
    rw [h]
    have := delAll_len zs l
    have := List.length_erase_le (a := z) (l := delAll zs l)
    omega
  termination_by gs => gs.length

/-- What a call answers that makes a row which it may yet write. -/
def OwnRet11 (zs : List Int) (w : World) (e : Ending) (w' : World) : Prop := ∃ a cap, e = .returned (.slice a zs.length cap) ∧ OwnI w.heap.size w' (.slice a zs.length cap) zs ∧ Below w.heap.size w w'

/-- The loop that takes numbers out. -/
def WithoutAt (zs gs : List Int) (w : World) (v i : Value) (w' : World) : Prop :=
  ∃ (k : Nat) (a : Option Addr) (cap : Nat), k ≤ gs.length ∧ i = .int .i64 k ∧ v = .slice a (delAll zs (gs.take k)).length cap ∧ OwnI w.heap.size w' (.slice a (delAll zs (gs.take k)).length cap) (delAll zs (gs.take k)) ∧ Below w.heap.size w w'

set_option maxHeartbeats 1600000 in
theorem without_any (a : Option Addr) (zs : List Int) (cap : Nat) (G : Option Addr) (gs : List Int) (gc : Nat) (w : World) (hrow : Row w a zs) (hgs : Row w G gs) (h1 : 0 < zs.length) (h2 : zs.length ≤ 1000000) (h3 : gs.length ≤ 10) :
    Calls Try.prog 16 #[.slice a zs.length cap, .slice G gs.length gc] w (OwnRet11 (delAll zs gs) w) := by
  have HZ := Lib.hid hrow.2.1
  go_enter Try.func16, Try.ntmps16
  go_wp2_with fail
  refine (sclone_any a zs cap _ hrow h1 h2).mono ?_
  rintro e wn ⟨v, rfl, hown, hb⟩
  obtain ⟨av, cv, rfl⟩ := hown.form
  go_wp2
  go_loopw [5, 7, 8, 13] (fun v _ _ i w' => WithoutAt zs gs w v i w') (fun _ _ _ i _ => gs.length - (intOf i).toNat)
  case atStart => exact ⟨0, av, cv, Nat.zero_le _, rfl, rfl, hown, hb⟩
  case round =>
    clear hown hb
    obtain ⟨k, ax, cx, hk, rfl, rfl, hown, hb⟩ := hrel
    have hsz := hb.size
    by_cases hlt : k < gs.length
    · have d1 : decide (k < gs.length) = true := by simpa using hlt
      obtain ⟨b, off, rfl, hbl, hcell, hz1, hz2⟩ := (hgs.later hb).get k hlt
      have HS := Lib.hid (delAll_succ zs gs k hlt)
      have hLl := delAll_len zs (gs.take k)
      have HLm := Lib.hid (fun z (h : z ∈ delAll zs (gs.take k)) => HZ.out z (delAll_mem _ h))
      generalize hL : delAll zs (gs.take k) = L at *
      generalize gs[k] = x at *
      have hlr := hown.row (by omega) HLm.out
      have HO := Lib.hid hown
      clear hown hL
      have g0 : (0 : Int) ≤ (k : Int) := by omega
      have g1 : (k : Int) < (gs.length : Int) := by omega
      go_wp2_with fail
      refine (sidx_any ax L cx x _ hlr).mono ?_
      rintro e wl ⟨rfl, rfl⟩
      rcases idx_erase L x with ⟨hi, he⟩ | ⟨j, hj, hi, he⟩
      · rw [hi]
        have HE := Lib.hid (HS.out.trans he)
        clear hi he
        go_wp2
        go_roundw
        case rel =>
          refine ⟨k + 1, ax, cx, by omega, by go_num, by rw [HE.out], ?_, hb⟩
          rw [HE.out]; exact HO.out
        case measure => simp [intOf]; omega
      · rw [hi]
        have HE := Lib.hid (HS.out.trans he)
        clear hi he
        obtain ⟨g, hv, hg, -⟩ := HO.out.at (by omega)
        subst hv
        have d2 : decide ((0 : Int) ≤ (j : Int)) = true := by simp
        have HD := Lib.hid (sdel_any w.heap.size g cx j L wr HO.out hj)
        go_wp2_with fail
        refine (HD.out).mono ?_
        rintro e w2 ⟨rfl, ho2, hb2⟩
        have hb3 := hb2 _ _ hb hg
        clear hb2
        go_wp2
        go_roundw
        case rel =>
          refine ⟨k + 1, some ⟨g, 0, none⟩, cx, by omega, by go_num, by rw [HE.out], ?_, hb3⟩
          rw [HE.out]; exact ho2
        case measure => simp [intOf]; omega
    · have d1 : decide (k < gs.length) = false := by simpa using hlt
      have HE := Lib.hid (show delAll zs (gs.take k) = delAll zs gs by rw [List.take_of_length_le (by omega)])
      rw [HE.out] at hown
      go_wp2
      go_ret
      exact ⟨ax, cx, by rw [HE.out]; rfl, hown, hb⟩

theorem half_any (n : Int) (w : World) (h1 : -9223372036854775808 ≤ n) (h2 : n ≤ 9223372036854775807) : Calls Try.prog 17 #[.int .i64 n] w fun e w' => e = .returned (.int .i64 (n / 2)) ∧ w = w' := by
  go_enter Try.func17, Try.ntmps17
  go_wp2
  go_ret
  exact ⟨rfl, rfl⟩

theorem leftI_del (l : List Int) : delAll l [minI l, maxI l] = leftI l := rfl

/-- What chapter 11 asks for. -/
def midR (l : List Int) : Int × Bool := if l.length < 4 then (0, false) else (midI l, true)
theorem midR_few {l : List Int} (h : l.length < 4) : midR l = (0, false) := by unfold midR; rw [if_pos h]
theorem midR_is {l : List Int} (h : 4 ≤ l.length) : midR l = (midI l, true) := by unfold midR; rw [if_neg (by omega)]

set_option maxHeartbeats 1600000 in
theorem mid_any (a : Option Addr) (zs : List Int) (cap : Nat) (w : World) (hrow : Row w a zs) (h2 : zs.length ≤ 1000) (hz : ∀ z ∈ zs, -1099511627776 ≤ z ∧ z ≤ 1099511627776) :
    Calls Try.prog 12 #[.slice a zs.length cap] w fun e w' => e = .returned (.tuple #[.int .i64 (midR zs).1, .bool (midR zs).2]) ∧ Below w.heap.size w w' := by
  by_cases h4 : zs.length < 4
  · have d1 : decide ((zs.length : Int) < 4) = true := by simp; omega
    rw [midR_few h4]
    clear h4
    go_enter Try.func12, Try.ntmps12
    go_wp2
    go_ret2
    exact ⟨rfl, Below.refl _ _⟩
  · have d1 : decide ((zs.length : Int) < 4) = false := by simp; omega
    have d2 : decide ((1000 : Int) < zs.length) = false := by simp; omega
    have h1 : 4 ≤ zs.length := by omega
    rw [midR_is h1]
    have hl := leftI_len (l := zs) (by omega)
    have bz1 := hz _ (minI_mem (l := zs) (by omega))
    have bz2 := hz _ (maxI_mem (l := zs) (by omega))
    have m1 := hz _ (leftI_mem (minI_mem (l := leftI zs) (by omega)))
    have m2 := hz _ (leftI_mem (maxI_mem (l := leftI zs) (by omega)))
    have HL := Lib.hid (fun z (h : z ∈ leftI zs) => hz z (leftI_mem h))
    have HM := Lib.hid (show (minI (leftI zs) + maxI (leftI zs)) / 2 = midI zs from rfl)
    have HW := Lib.hid (leftI_del zs)
    have HMn := Lib.hid (fun W (h : Row W a zs) => smin_any a zs cap W h (by omega))
    have HMx := Lib.hid (fun W (h : Row W a zs) => smax_any a zs cap W h (by omega))
    have HWo := Lib.hid (fun W (G : Option Addr) (gc : Nat) (h : Row W a zs) (hg : Row W G [minI zs, maxI zs]) => without_any a zs cap G [minI zs, maxI zs] gc W h hg (by omega) (by omega) (by simp))
    generalize minI zs = p at *
    generalize maxI zs = q at *
    generalize midI zs = m at *
    rw [HW.out] at HWo
    generalize leftI zs = L at *
    have d3 : decide (p < (-1099511627776 : Int)) = false := by simp; omega
    have d4 : decide ((1099511627776 : Int) < q) = false := by simp; omega
    go_enter Try.func12, Try.ntmps12
    go_wp2_with fail
    refine (HMn.out _ hrow).mono ?_
    rintro e wl ⟨rfl, rfl⟩
    go_wp2_with fail
    refine (HMx.out _ hrow).mono ?_
    rintro e wl ⟨rfl, rfl⟩
    go_wp2_with fail
    have hrg := Row.made w [p, q] 3 (by simp) (by intro z hz; simp at hz; rcases hz with rfl | rfl <;> omega)
    refine (HWo.out _ _ _ (hrow.alloc _) hrg).mono ?_
    rintro e wn ⟨al, cl, rfl, hown, hb⟩
    have hB := (alloc_below w _).trans (hb.mono (alloc_below w _).size)
    have hrl := hown.row (by omega) (fun z hz => by have := HL.out z hz; omega)
    clear hown hb
    have z1 : IntKind.i64.wrap (minI L + maxI L) = minI L + maxI L := wrap_in _ (by omega) (by omega)
    go_wp2_with fail
    refine (smin_any al L cl _ hrl (by omega)).mono ?_
    rintro e wl2 ⟨rfl, rfl⟩
    go_wp2_with fail
    refine (smax_any al L cl _ hrl (by omega)).mono ?_
    rintro e wl2 ⟨rfl, rfl⟩
    go_wp2_with fail
    refine (half_any _ _ (by omega) (by omega)).mono ?_
    rintro e wl2 ⟨rfl, rfl⟩
    go_wp2
    go_ret2
    exact ⟨by rw [HM.out]; rfl, hB⟩

end Go.Proofs.Ytphjobeiindeeaa
