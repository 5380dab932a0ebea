/-
  Contracts of package ring, third part: the owners struck out of a walk; ways.
-/
import Derived.Test.YtlchfknfmjddiaaDev7
namespace Go.Proofs.Ytlchfknfmjddiaa
open Go.RowKit Plait
set_option linter.unusedVariables false

theorem Row.farCell {w : World} {a : Option Addr} {zs : List Int} (h : Row w a zs) {base g : Nat} (i : Nat) (u : Value) (hne : ∀ x, a = some x → x.block < base) (hg : base ≤ g) : Row (w.setCell ⟨g, i, none⟩ u) a zs :=
  h.far g i u fun x hx => by have := hne x hx; omega

/-- The loop that strikes out. -/
def StrikeAt (zs os : List Int) (O : Option Addr) (base g : Nat) (w : World) (a b : Value) (w' : World) : Prop :=
  ∃ (i j : Nat) (ys : List Int), a = .int .i64 i ∧ b = .int .i64 j ∧ Kept zs os ys i j ∧ Lies w' g ys ∧ Row w' O os ∧ Below base w w'

set_option maxHeartbeats 3200000 in
theorem gdelete_any (base : Nat) (v : Value) (zs : List Int) (O : Option Addr) (os : List Int) (oc : Nat) (w : World) (hown : OwnI base w v zs) (ho : Row w O os) (hO : ∀ x, O = some x → x.block < base) (hlen : zs.length ≤ 1000000) (hin : ∀ z ∈ zs, -9223372036854775808 ≤ z ∧ z ≤ 9223372036854775807) (hbase : base ≤ w.heap.size) :
    Calls Try.prog 27 #[v, .func (.func 30) #[.slice O os.length oc] #[]] w fun e w' =>
      ∃ (a : Option Addr) (cap : Nat), e = .returned (.slice a (zs.filter fun x => !inB os x).length cap) ∧ Row w' a (zs.filter fun x => !inB os x) ∧ (∀ x, a = some x → base ≤ x.block) ∧ Below base w w' := by
  obtain ⟨av, cv, rfl⟩ := hown.form
  have hrow := hown.row (by omega) hin
  have HI := Lib.hid (gindexFunc_any av zs cv O os oc w hrow ho)
  have HO := Lib.hid hown
  have HR := Lib.hid hrow
  clear hown hrow
  go_enter Try.func27, Try.ntmps27
  go_wp2_with fail
  refine HI.out.mono ?_
  rintro e wl ⟨⟨r, rfl, hr⟩, rfl⟩
  rcases hr with ⟨rfl, hno⟩ | ⟨k, hk, rfl, hp, hno⟩
  · have HF := Lib.hid (show (zs.filter fun x => !inB os x) = zs by have := filter_none os zs zs.length hno; rwa [List.take_of_length_le (Nat.le_refl _)] at this)
    clear hno
    go_wp2
    go_ret
    refine ⟨av, cv, by rw [HF.out]; rfl, by rw [HF.out]; exact HR.out, fun x hx => ?_, Below.refl _ _⟩
    exact (HO.out.lt x.block (by rw [hx]; rfl)).1
  · obtain ⟨g, cap, hv, hcap, hmax, hg, hl⟩ := HO.out.lies (by omega)
    obtain ⟨rfl, rfl⟩ : av = some ⟨g, 0, none⟩ ∧ cv = cap := by injection hv with h1 h2 h3; exact ⟨h1, h3⟩
    have HK := Lib.hid (Kept.start hk hp hno)
    have d0 : ((k : Int) == -1) = false := by rw [beq_eq_false_iff_ne]; omega
    clear hp hno hv
    go_wp2
    go_loopw [5, 6, 7] (fun a b _ w' => StrikeAt zs os O base g w a b w') (fun _ b _ _ => zs.length - (intOf b).toNat)
    case atStart => exact ⟨k, k + 1, zs, rfl, by go_num, HK.out, hl, ho, Below.refl _ _⟩
    case round =>
      obtain ⟨i, j, ys, rfl, rfl, hkept, hlies, hor, hb⟩ := hrel
      have KK := Lib.hid hkept
      have LL := Lib.hid hlies
      have l1 := hkept.lt; have l2 := hkept.le; have l3 := hkept.len
      by_cases hlt : j < zs.length
      · have d1 : decide (j < zs.length) = true := by simpa using hlt
        have hj : j < ys.length := by omega
        have c1 := hlies.cell j hj
        obtain ⟨old, c2⟩ : ∃ old, wr.cell? ⟨g, i, none⟩ = some (.int .i64 old) := ⟨_, hlies.cell i (by omega)⟩
        have f2 := hlies.frozen i
        rw [hkept.at hlt hj] at c1
        have HC := Lib.hid (ghas_any O os oc zs[j] wr hor)
        have HH := Lib.hid (fun h => KK.out.keep hlt h)
        have HS := Lib.hid (fun h => KK.out.skip hlt h)
        have LX := Lib.hid (LL.out.set i zs[j])
        clear hkept hlies l3
        cases hx : inB os zs[j]
        · have HX := Lib.hid hx
          clear hx
          go_wp2_with fail
          refine HC.out.mono ?_
          rintro e wl ⟨rfl, rfl⟩
          rw [HX.out]
          go_wp2
          go_roundw
          case rel => exact ⟨i + 1, j + 1, ys.set i zs[j], by go_num, by go_num, HH.out HX.out, LX.out, hor.farCell i _ hO hg, hb.setCell hg _⟩
          case measure => simp [intOf]; omega
        · have HX := Lib.hid hx
          clear hx
          go_wp2_with fail
          refine HC.out.mono ?_
          rintro e wl ⟨rfl, rfl⟩
          rw [HX.out]
          go_wp2
          go_roundw
          case rel => exact ⟨i, j + 1, ys, rfl, by go_num, HS.out HX.out, LL.out, hor, hb⟩
          case measure => simp [intOf]; omega
      · obtain rfl : j = zs.length := by omega
        have d1 : decide (zs.length < zs.length) = false := by simp
        obtain ⟨q1, q2⟩ := KK.out.done
        have Q1 := Lib.hid q1
        have Q2 := Lib.hid q2
        have hcl : ∀ ty, (Builtin.clear_ #[33] ty #[.slice (some ⟨g, i, none⟩) (zs.length - i) (cv - i)]).run Try.prog wr = .ok (.tuple #[]) (wr.setCells g i (List.replicate (zs.length - i) (.int .i64 0))) :=
          fun ty => Lib.run_clear_slice wr _ _ ty _ Try.underlying33 Try.zeroValue3 rfl rfl g i _ _ (by omega) (fun t ht => by rw [LL.out.cell (i + t) (by omega)]; rfl) (fun t ht => LL.out.frozen _)
        have HL := Lib.hid (setCells_lies base (List.replicate (zs.length - i) (.int .i64 0)) i wr w g (ys.take i) hg hb (LL.out.take i) (by rw [List.length_take]; omega))
        clear hkept hlies l3 q1 q2
        generalize wr.setCells g i (List.replicate (zs.length - i) (.int .i64 0)) = wz at *
        go_wp2
        go_ret
        obtain ⟨m1, m2⟩ := HL.out
        rw [Q1.out] at m2
        refine ⟨_, _, by rw [← Q2.out]; rfl, m2.row ?_ ?_, fun x hx => by injection hx with hx; rw [← hx]; exact hg, m1⟩
        · rw [← Q2.out]; omega
        · intro z hz
          exact hin z ((List.mem_filter.1 hz).1)

theorem lastI_in (n : Int) (os : List Int) (d : Int) (h : 0 < os.length) (ho : ∀ z ∈ os, 0 ≤ z ∧ z < n) : 0 ≤ lastI os d ∧ lastI os d < n := by
  by_cases hd : d < 0
  · rw [← lastI_neg os d hd h]
    exact ho _ (List.getElem_mem h)
  · have hl : os.length - 1 < os.length := by omega
    rw [← lastI_pos os d hd hl]
    exact ho _ (List.getElem_mem hl)

set_option maxHeartbeats 1600000 in
theorem gWay_any (n : Int) (O : Option Addr) (os : List Int) (oc : Nat) (d : Int) (w : World) (h1 : 0 < n) (h2 : n ≤ 12) (hd : d = 1 ∨ d = -1) (ho : Row w O os) (hO : ∀ x, O = some x → x.block < w.heap.size) (hos : ∀ z ∈ os, 0 ≤ z ∧ z < n) :
    Calls Try.prog 19 #[.int .i64 n, .slice O os.length oc, .int .i64 d] w (RowRet (wayI n os d) w) := by
  have hlen := ho.1
  rcases Nat.eq_zero_or_pos os.length with h0 | h0
  · have e := List.eq_nil_of_length_eq_zero h0
    have HF := Lib.hid (show wayI n os d = [] by unfold wayI; rw [if_pos e])
    clear e
    have d0 : ((os.length : Int) == 0) = true := by rw [h0]; rfl
    clear h0
    go_enter Try.func19, Try.ntmps19
    go_wp2
    go_ret
    exact ⟨none, 0, by rw [HF.out]; rfl, by rw [HF.out]; exact Row.empty _ _, (fun x h => by cases h), Below.refl _ _⟩
  · have HF := Lib.hid (show wayI n os d = (walkTo n (lastI os d) d (n.toNat - 1)).filter fun x => !inB os x by unfold wayI; rw [if_neg (by intro e; rw [e] at h0; simp at h0)])
    have d0 : ((os.length : Int) == 0) = false := by rw [beq_eq_false_iff_ne]; omega
    have d1 : decide (12 < n) = false := by simpa using h2
    obtain ⟨l1, l2⟩ := lastI_in n os d h0 hos
    have HL := Lib.hid (glast_any O os oc d w ho h0)
    have HB1 := Lib.hid (walkTo_in n (lastI os d) d (n.toNat - 1) h1)
    have HB2 := Lib.hid (walkTo_len n (lastI os d) d (n.toNat - 1))
    generalize lastI os d = f at *
    go_enter Try.func19, Try.ntmps19
    go_wp2_with fail
    refine HL.out.mono ?_
    rintro e wl ⟨rfl, rfl⟩
    go_wp2_with fail
    refine (gwalk_any n f d _ h1 h2 l1 l2 hd).mono ?_
    rintro e wn ⟨v, rfl, hown, hb⟩
    have HD := Lib.hid (gdelete_any w.heap.size v _ O os oc wn hown (ho.later hb) hO (by rw [HB2.out]; omega) (fun z hz => by have := HB1.out z hz; omega) hb.size)
    go_wp2_with fail
    refine HD.out.mono ?_
    rintro e wm ⟨a, cap, rfl, hr, ha, hb2⟩
    go_wp2
    go_ret
    exact ⟨a, cap, by rw [HF.out]; rfl, by rw [HF.out]; exact hr, ha, hb.trans hb2⟩

end Go.Proofs.Ytlchfknfmjddiaa
