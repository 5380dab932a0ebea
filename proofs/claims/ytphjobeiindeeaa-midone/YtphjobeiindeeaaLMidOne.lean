/-
  MidOne's walk.
-/
import Derived.Test.YtphjobeiindeeaaMid5
namespace Go.Proofs.Ytphjobeiindeeaa
open Go.RowKit Plait
set_option maxRecDepth 100000
set_option linter.unusedVariables false

/-- The loop that finds the ends. -/
def EndsAt (l : List Int) (w : World) (a z i : Value) (w' : World) : Prop :=
  ∃ (k : Nat) (p q : Int), k ≤ l.length ∧ i = .int .i64 k ∧ a = .int .i64 p ∧ z = .int .i64 q ∧ (∀ v ∈ l.take k, p ≤ v ∧ v ≤ q) ∧ -1000 ≤ p ∧ p ≤ 1000 ∧ -1000 ≤ q ∧ q ≤ 1000 ∧ Below w.heap.size w w'
theorem ends_next {l : List Int} {k : Nat} {p q : Int} (h : k < l.length) (hp : ∀ v ∈ l.take k, p ≤ v ∧ v ≤ q) : ∀ v ∈ l.take (k + 1), min p l[k] ≤ v ∧ v ≤ max q l[k] := by
  rw [List.take_succ_eq_append_getElem h]
  intro v hv
  rcases List.mem_append.1 hv with hv | hv
  · have := hp v hv; omega
  · simp at hv; subst hv; omega


set_option maxHeartbeats 3200000 in
theorem midOne_walk (a0 : Option Addr) (ns : List Int) (cap0 : Nat) (x at_ : Int) (w : World) (r0 : Row w a0 ns) (x1 : -9223372036854775808 ≤ x) (x2 : x ≤ 9223372036854775807) (q1 : -9223372036854775808 ≤ at_) (q2 : at_ ≤ 9223372036854775807) :
    Calls Try.prog 5 #[.slice a0 ns.length cap0, .int .i64 x, .int .i64 at_] w fun e w' => e = .returned (.bool true) ∧ Below w.heap.size w w' := by
  have hB : Below w.heap.size w w := Below.refl _ _
  go_enter Try.func5, Try.ntmps5
  go_wp2_with fail
  refine (known11_any _).mono ?_
  rintro e wn ⟨rfl, hb⟩
  replace hB := hB.trans (hb.mono hB.size)
  clear hb
  go_wp2_with fail
  refine (some11_any a0 ns cap0 1000 _ (r0.later hB) (by omega) (by omega)).mono ?_
  rintro e wm ⟨al, cl, rfl, hown, hb⟩
  replace hB := hB.trans (hb.mono hB.size)
  clear hb
  have hin := someI_in ns 1000 (by omega)
  have hl30 := someI_len ns 1000
  generalize someI ns 1000 = l at *
  by_cases h3 : l.length < 3
  · have d1 : decide ((l.length : Int) < 3) = true := by simp; omega
    go_wp2
    go_ret
    exact ⟨rfl, hB⟩
  have d1 : decide ((l.length : Int) < 3) = false := by simp; omega
  have hrl := hown.row (by omega) (fun z hz => by have := hin z hz; omega)
  obtain ⟨g, rfl, hg0, hg1, hcs, -⟩ := hown.at (by omega)
  have hcl : l.length ≤ cl := by
    rcases hown.2 with ⟨hv, h0⟩ | ⟨g', cap', cur, hv, _, _, hcap, _⟩
    · omega
    · injection hv with _ _ e
      rw [e]
      exact hcap
  have HO := Lib.hid hown
  clear hown
  have c0 := hcs 0 (by omega)
  have i0 := hin l[0] (List.getElem_mem (by omega))
  have g0 : (0 : Int) < (l.length : Int) := by omega
  generalize hl0 : l[0]'(by omega) = y0 at *
  clear hl0
  go_wp2
  go_quiet (fail)
  go_wp2
  go_loopw [8, 9, 10] (fun a z i w' => EndsAt l wm a z i w') (fun _ _ i _ => l.length - (intOf i).toNat)
  case atStart => exact ⟨0, y0, y0, Nat.zero_le _, rfl, rfl, rfl, by simp, i0.1, i0.2, i0.1, i0.2, below_drewN (Below.refl _ _) _⟩
  case round =>
    clear c0 i0 g0
    obtain ⟨k, p, q, hk, rfl, rfl, rfl, hpq, p1, p2, p3, p4, hb⟩ := hrel
    have hrw := hrl.later hb
    by_cases hlt : k < l.length
    · have d2 : decide (k < l.length) = true := by simpa using hlt
      obtain ⟨b, off, e7, hbl, hcell, hz1, hz2⟩ := hrw.get k hlt
      obtain ⟨rfl, rfl⟩ : g = b ∧ 0 = off := by injection e7 with e; injection e with e1 e2; exact ⟨e1, e2⟩
      rw [Nat.zero_add] at hcell
      have HN := Lib.hid (ends_next hlt hpq)
      have iv := hin l[k] (List.getElem_mem hlt)
      have hk2 : k + 1 ≤ l.length := hlt
      generalize l[k] = v at *
      have g0 : (0 : Int) ≤ (k : Int) := by omega
      have g1 : (k : Int) < (l.length : Int) := by omega
      clear e7
      go_wp2
      go_region
      go_wp2
      go_roundw
      case rel => exact ⟨k + 1, min p v, max q v, by omega, by go_num, rfl, rfl, HN.out, by omega, by omega, by omega, by omega, by first | exact hb.drew | exact below_drewN hb _⟩
      case measure => simp [intOf]; omega
    · have d2 : decide (k < l.length) = false := by simpa using hlt
      rw [List.take_of_length_le (by omega)] at hpq
      have hB2 := hB.trans (hb.mono hB.size)
      have HP := Lib.hid (fun (j : Nat) (u : Int) => mid_one l u j p q (by omega) (fun v hv => (hpq v hv).1) (fun v hv => (hpq v hv).2))
      clear hpq hb hB
      go_wp2_with fail
      refine (within11_any at_ ((l.length : Int) + 1) _ (by omega) (by omega)).mono ?_
      rintro e wl ⟨rfl, rfl⟩
      have y0 := Int.emod_nonneg at_ (show (l.length : Int) + 1 ≠ 0 by omega)
      have y1 := Int.emod_lt_of_pos at_ (show (0 : Int) < (l.length : Int) + 1 by omega)
      generalize at_ % ((l.length : Int) + 1) = j at *
      obtain ⟨jn, hjn⟩ : ∃ jn : Nat, j = jn := ⟨j.toNat, by omega⟩
      subst hjn
      have hjl : jn ≤ l.length := by omega
      have lt : (l.take jn).length = jn := by rw [List.length_take]; omega
      have ld : (l.drop jn).length = l.length - jn := by rw [List.length_drop]
      have g0 : (0 : Int) ≤ (jn : Int) := by omega
      have g1 : (jn : Int) ≤ (cl : Int) := by omega
      have g2 : (jn : Int) ≤ (l.length : Int) := by omega
      have ht := hrw.takeR jn
      have hd := hrw.dropR jn
      go_wp2_with (at_builtin; refine wpList_appR _ rfl _ _ rfl wr.heap.size (.slice none 0 0) [] rfl (OwnI.nil _ _) (some ⟨g, 0, none⟩) (l.take jn) cl (by rw [lt]; rfl) ht (by simp) (by omega) (Nat.le_refl _) ?_; intro v1 w1 ho1 hg1')
      rw [List.nil_append] at ho1
      have hG1 : Below wr.heap.size wr w1 := below_grown (Below.refl _ _) (Nat.le_refl _) hg1' (fun k e => by cases e)
      have hs1 := hG1.size
      obtain ⟨a1, c1, rfl⟩ := ho1.form
      rw [lt] at ho1
      have hol1 := ho1.lt
      have hb1 := hd.later hG1
      have hB3 := hB2.trans (hG1.mono hB2.size)
      have LT := Lib.hid lt
      have LD := Lib.hid ld
      have hn1 : IntKind.i64.wrap 1 = 1 := rfl
      clear ht hrw lt
      go_wp2_with fail
      refine (within11_any x 2000001 _ (by omega) (by omega)).mono ?_
      rintro e wl ⟨rfl, rfl⟩
      have u0 := Int.emod_nonneg x (show (2000001 : Int) ≠ 0 by omega)
      have u1 := Int.emod_lt_of_pos x (show (0 : Int) < 2000001 by omega)
      generalize x % 2000001 = u at *
      go_upto_region 15 with (at_builtin; refine wpList_app1 _ rfl _ _ rfl wr.heap.size (.slice a1 (l.take jn).length c1) (l.take jn) (by rw [LT.out]; rfl) (by rw [LT.out]; exact ho1.later (alloc_below _ _)) w1.heap.size 1 (u - 1000000) rfl (heap_alloc_new _ _) (by rw [LT.out]; omega) (by simp; omega) ?_; intro gb cap2 w2 ho2 hg2' hgg2 hgl2)
      have hG2 : Below wr.heap.size wr w2 := below_grown (hG1.alloc hs1 _) (by simp; omega) hg2' (fun k e => (hol1 k (by rw [LT.out] at e; exact e)).1)
      have hb2 := hd.later hG2
      rw [LT.out] at ho2
      have hol2 := ho2.lt
      have ht2 : (l.take jn ++ [u - 1000000]).length = jn + 1 := by rw [List.length_append, LT.out]; rfl
      rw [← ht2] at ho2
      have HT2 := Lib.hid ht2
      clear ht2
      by_cases hcj : cl = jn
      · subst hcj
        go_wp2_with (at_builtin; refine wpList_appR _ rfl _ _ rfl wr.heap.size (.slice (some ⟨gb, 0, none⟩) (l.take cl ++ [u - 1000000]).length cap2) (l.take cl ++ [u - 1000000]) (by rw [HT2.out]; rfl) ho2 _ (l.drop cl) _ (by first | (rw [LD.out]; rfl) | (rw [LD.out, Nat.sub_eq_zero_of_le (by omega)]; rfl)) (Row.dropE (by omega)) (by rw [HT2.out]; omega) (by rw [LD.out]; omega) hG2.size ?_; intro v3 w3 ho3 hg3')
        have hG3 : Below wr.heap.size wr w3 := below_grown hG2 hG2.size hg3' (fun k e => (hol2 k e).1)
        have hB4 := hB2.trans (hG3.mono hB2.size)
        obtain ⟨a3, c3, rfl⟩ := ho3.form
        have HQ := Lib.hid (HP.out cl (u - 1000000))
        have hT : ∀ z ∈ l.take cl ++ [u - 1000000] ++ l.drop cl, -1099511627776 ≤ z ∧ z ≤ 1099511627776 := by
          intro z hz
          rcases List.mem_append.1 hz with hz | hz
          · rcases List.mem_append.1 hz with hz | hz
            · have := hin z (List.mem_of_mem_take hz); omega
            · simp at hz; omega
          · have := hin z (List.mem_of_mem_drop hz); omega
        have hTl : (l.take cl ++ [u - 1000000] ++ l.drop cl).length = l.length + 1 := by rw [List.length_append, HT2.out, LD.out]; omega
        generalize l.take cl ++ [u - 1000000] ++ l.drop cl = T at *
        have hrt := ho3.row (by omega) (fun z hz => by have := hT z hz; omega)
        go_wp2_with fail
        refine (mid_any a3 T c3 _ hrt (by omega) hT).mono ?_
        rintro e w4 ⟨rfl, hb4⟩
        rw [midR_is (by omega)]
        have hB5 := hB4.trans (hb4.mono hB4.size)
        have e1 : decide (p ≤ midI T) = true := by simpa using HQ.out.1
        have e2 : decide (midI T ≤ q) = true := by simpa using HQ.out.2
        clear HQ
        go_wp2
        go_ret
        exact ⟨rfl, hB5⟩
      · go_wp2_with (at_builtin; refine wpList_appR _ rfl _ _ rfl wr.heap.size (.slice (some ⟨gb, 0, none⟩) (l.take jn ++ [u - 1000000]).length cap2) (l.take jn ++ [u - 1000000]) (by rw [HT2.out]; rfl) ho2 _ (l.drop jn) _ (by rw [LD.out]; rfl) (by first | exact hb2 | (rw [Nat.zero_add] at hb2; exact hb2)) (by rw [HT2.out]; omega) (by rw [LD.out]; omega) hG2.size ?_; intro v3 w3 ho3 hg3')
        have hG3 : Below wr.heap.size wr w3 := below_grown hG2 hG2.size hg3' (fun k e => (hol2 k e).1)
        have hB4 := hB2.trans (hG3.mono hB2.size)
        obtain ⟨a3, c3, rfl⟩ := ho3.form
        have HQ := Lib.hid (HP.out jn (u - 1000000))
        have hT : ∀ z ∈ l.take jn ++ [u - 1000000] ++ l.drop jn, -1099511627776 ≤ z ∧ z ≤ 1099511627776 := by
          intro z hz
          rcases List.mem_append.1 hz with hz | hz
          · rcases List.mem_append.1 hz with hz | hz
            · have := hin z (List.mem_of_mem_take hz); omega
            · simp at hz; omega
          · have := hin z (List.mem_of_mem_drop hz); omega
        have hTl : (l.take jn ++ [u - 1000000] ++ l.drop jn).length = l.length + 1 := by rw [List.length_append, HT2.out, LD.out]; omega
        generalize l.take jn ++ [u - 1000000] ++ l.drop jn = T at *
        have hrt := ho3.row (by omega) (fun z hz => by have := hT z hz; omega)
        go_wp2_with fail
        refine (mid_any a3 T c3 _ hrt (by omega) hT).mono ?_
        rintro e w4 ⟨rfl, hb4⟩
        rw [midR_is (by omega)]
        have hB5 := hB4.trans (hb4.mono hB4.size)
        have e1 : decide (p ≤ midI T) = true := by simpa using HQ.out.1
        have e2 : decide (midI T ≤ q) = true := by simpa using HQ.out.2
        clear HQ
        go_wp2
        go_ret
        exact ⟨rfl, hB5⟩

end Go.Proofs.Ytphjobeiindeeaa
