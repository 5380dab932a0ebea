/-
  Contracts of plaitingref5, second part: texts of frames.
-/
import Derived.Test.YtbghpkdkfbpmeaaGreatK3
namespace Go.Proofs.YtbghpkdkfbpmeaaGreat
open Go.RowKit Plait
set_option maxRecDepth 100000
set_option linter.unusedVariables false

/-- The loop over the items. -/
def TextAt (f : Fr) (a : Option Addr) (cap : Nat) (w : World) (s i : Value) (w' : World) : Prop :=
  ∃ k : Nat, k ≤ f.E.length ∧ i = .int .i64 k ∧ s = .string ⟨(frHead f ++ (f.E.take k).flatMap itBits).toArray⟩ ∧ Below w.heap.size w w' ∧ Blk w' (w.heap.size + 1) 32 (frBox f a cap)

theorem items_take (E : List It) (k : Nat) (h : k < E.length) : (E.take (k + 1)).flatMap itBits = (E.take k).flatMap itBits ++ itBits E[k] := by
  rw [List.take_succ_eq_append_getElem h, List.flatMap_append]
  simp

set_option maxHeartbeats 3200000 in
theorem rText_any (c : Cf) (ca : Option Addr) (cc : Nat) (f : Fr) (a : Option Addr) (cap : Nat) (w : World) (hE : RowT w a f.E) (hl : f.E.length ≤ 1000) :
    Calls Tryz.prog 13 #[.agg #[.int .i64 c.N, .int .i64 c.Pi, .int .i64 c.E, .int .i64 c.G, .int .i64 c.F, .slice ca c.P.length cc], .agg #[.int .i64 f.K, .int .i64 f.R, .int .i64 f.S, .int .i64 f.P.K, .int .i64 f.P.V, .slice a f.E.length cap]] w fun e w' => e = .returned (.string ⟨(textF f).toArray⟩) ∧ Below w.heap.size w w' := by
  have h2 := bitsI_len f.K 2
  have h16 := bitsI_len f.R 16
  have h6 := bitsI_len f.S 6
  have hp := itBits_length f.P
  have HF := Lib.hid (show bitsI f.K 2 ++ (bitsI f.R 16 ++ (bitsI f.S 6 ++ itBits f.P)) = frHead f by
    rw [show bitsI f.K 2 = bitsL f.K 2 from bitsI_of f.K 2 (by omega) (by omega), show bitsI f.R 16 = bitsL f.R 16 from bitsI_of f.R 16 (by omega) (by omega), show bitsI f.S 6 = bitsL f.S 6 from bitsI_of f.S 6 (by omega) (by omega)]; simp [frHead])
  have r1 := fun W : World => add_run (bitsI f.K 2) (bitsI f.R 16) (by omega) (by omega) W
  have r2 := fun W : World => add_run (bitsI f.K 2 ++ bitsI f.R 16) (bitsI f.S 6) (by rw [List.length_append]; omega) (by omega) W
  have r3 := fun W : World => add_run (bitsI f.K 2 ++ (bitsI f.R 16 ++ bitsI f.S 6)) (itBits f.P) (by rw [List.length_append, List.length_append]; omega) (by omega) W
  clear hp h2 h16 h6
  have hB : Below w.heap.size w ((w.alloc (.cells #[.int .i64 c.N, .int .i64 c.Pi, .int .i64 c.E, .int .i64 c.G, .int .i64 c.F, .slice ca c.P.length cc] 24)).alloc (.cells #[.int .i64 f.K, .int .i64 f.R, .int .i64 f.S, .int .i64 f.P.K, .int .i64 f.P.V, .slice a f.E.length cap] 32)) := (alloc_below w _).alloc (by simp) _
  have hK : Blk ((w.alloc (.cells #[.int .i64 c.N, .int .i64 c.Pi, .int .i64 c.E, .int .i64 c.G, .int .i64 c.F, .slice ca c.P.length cc] 24)).alloc (.cells #[.int .i64 f.K, .int .i64 f.R, .int .i64 f.S, .int .i64 f.P.K, .int .i64 f.P.V, .slice a f.E.length cap] 32)) (w.heap.size + 1) 32 (frBox f a cap) := Blk.newAt _ _ (by simp)
  go_enter Tryz.func13, Tryz.ntmps13
  go_wp2_with fail
  generalize (w.alloc (.cells #[.int .i64 c.N, .int .i64 c.Pi, .int .i64 c.E, .int .i64 c.G, .int .i64 c.F, .slice ca c.P.length cc] 24)).alloc (.cells #[.int .i64 f.K, .int .i64 f.R, .int .i64 f.S, .int .i64 f.P.K, .int .i64 f.P.V, .slice a f.E.length cap] 32) = wn at *
  obtain ⟨I, F, i0, h0, hR, hcl⟩ := class_any wn (stable_and (stable_below w) (stable_blk (w.heap.size + 1) 32 (frBox f a cap))) ⟨hB, hK⟩
  have K_hB := Lib.hid (fun i => (hR i).1)
  have qhK0 : ∀ i, (F i).cell? ⟨w.heap.size + 1, 0, none⟩ = some (.int .i64 f.K) := fun i => by rw [(hR i).2.at]; rfl
  have qhK1 : ∀ i, (F i).cell? ⟨w.heap.size + 1, 1, none⟩ = some (.int .i64 f.R) := fun i => by rw [(hR i).2.at]; rfl
  have qhK2 : ∀ i, (F i).cell? ⟨w.heap.size + 1, 2, none⟩ = some (.int .i64 f.S) := fun i => by rw [(hR i).2.at]; rfl
  have qhK3 : ∀ i, (F i).cell? ⟨w.heap.size + 1, 3, none⟩ = some (.int .i64 f.P.K) := fun i => by rw [(hR i).2.at]; rfl
  have qhK4 : ∀ i, (F i).cell? ⟨w.heap.size + 1, 4, none⟩ = some (.int .i64 f.P.V) := fun i => by rw [(hR i).2.at]; rfl
  have qhK5 : ∀ i, (F i).cell? ⟨w.heap.size + 1, 5, none⟩ = some (.slice a f.E.length cap) := fun i => by rw [(hR i).2.at]; rfl
  have K_hK := Lib.hid (fun i => (hR i).2)
  have HR := Lib.hid hR
  have HC := Lib.hid hcl
  have H0 := Lib.hid h0
  clear hR hcl h0
  haveI : Nonempty I := ⟨i0⟩
  refine wp_region_class F i0 H0.out (by kernel_rfl) (by kernel_rfl) ?_
  repeat (go_big_quiet_step ((first | (go_at_call 31; exact class_same (rbits_any _ _ _)) | (go_at_call 32; exact class_call HC.out (rbits5_any f.P _)))))
  refine wpQuiet_nil ?_
  intro _ hw'
  obtain ⟨iq, hw''⟩ := hw'
  subst hw''
  clear hB hK K_hB qhK0 qhK1 qhK2 qhK3 qhK4 qhK5 K_hK HC H0
  obtain ⟨hB, hK⟩ := HR.out iq
  clear HR
  generalize F iq = wn at *
  rw [HF.out]
  clear r1 r2 r3 HF
  have HW := Lib.hid (fun W => rwrap_any (frBits f) W (by rw [frBits_length]; omega))
  have HT := Lib.hid (show textF f = wrapL (frBits f) from rfl)
  have hh := frHead_length f
  have h34 : (frHead f).length ≤ 34 := by omega
  clear hh
  go_wp2
  go_loopw [5, 6] (fun s i w' => TextAt f a cap w s i w') (fun _ i _ => f.E.length - (intOf i).toNat)
  case atStart => exact ⟨0, Nat.zero_le _, rfl, by simp, hB, hK⟩
  case round =>
    clear hB hK
    obtain ⟨k, hk, rfl, rfl, hB, hK⟩ := hrel
    have hQ := hK.at
    unfold frBox at hQ
    by_cases hlt : k < f.E.length
    · have d1 : decide (k < f.E.length) = true := by simpa using hlt
      obtain ⟨b, off, rfl, hbl, c1, c2, _, _⟩ := (hE.later hB).get k hlt
      have HS := Lib.hid (items_take f.E k hlt)
      have hx : ((f.E.take k).flatMap itBits).length ≤ 10000 := by rw [items_length, List.length_take]; omega
      have hy : (itBits f.E[k]).length ≤ 10 := by rw [itBits_length]; omega
      have HC := Lib.hid (fun W => rbits5_any f.E[k] W)
      generalize itBits f.E[k] = Y at *
      generalize (f.E.take k).flatMap itBits = X at *
      generalize f.E[k] = t at *
      go_wp2_with fail
      refine (HC.out _).mono ?_
      rintro e wn ⟨rfl, hb⟩
      replace hB := hB.trans (hb.mono hB.size)
      replace hK := hK.later hb
      clear hb hQ c1 c2 HC
      go_wp2
      go_roundw
      case rel => exact ⟨k + 1, by omega, by go_num, by rw [HS.out], hB, hK⟩
      case measure => simp [intOf]; omega
    · have d1 : decide (k < f.E.length) = false := by simpa using hlt
      have HE := Lib.hid (show frHead f ++ (f.E.take k).flatMap itBits = frBits f by rw [List.take_of_length_le (by omega)]; rfl)
      rw [HE.out]
      go_wp2_with fail
      refine (HW.out _).mono ?_
      rintro e wl ⟨rfl, rfl⟩
      go_wp2
      go_ret
      exact ⟨ret_str5 HT.out.symm, hB⟩

end Go.Proofs.YtbghpkdkfbpmeaaGreat
/-
  Contracts of plaitingref5, third part: whether frames are the same, whether one may be.
-/
namespace Go.Proofs.YtbghpkdkfbpmeaaGreat
open Go.RowKit Plait
set_option maxRecDepth 100000
set_option linter.unusedVariables false

/-- The loop of Items. -/
def ItemsAt (xs ys : List It) (w : World) (i : Value) (w' : World) : Prop := ∃ k : Nat, k ≤ xs.length ∧ i = .int .i64 k ∧ xs.take k = ys.take k ∧ Below w.heap.size w w'

theorem it_ext (a b : It) (h : a.K = b.K) (h2 : a.V = b.V) : a = b := by cases a; cases b; simp_all

theorem items_step (xs ys : List It) (k : Nat) (h : k < xs.length) (h2 : k < ys.length) (ha : xs.take k = ys.take k) (e : xs[k] = ys[k]) : xs.take (k + 1) = ys.take (k + 1) := by
  rw [List.take_succ_eq_append_getElem h, List.take_succ_eq_append_getElem h2, ha, e]
theorem items_no (xs ys : List It) (k : Nat) (h : k < xs.length) (h2 : k < ys.length) (e : xs[k] ≠ ys[k]) : decide (xs = ys) = false := by
  rw [decide_eq_false_iff_not]
  rintro rfl
  exact e rfl
theorem items_end (xs ys : List It) (k : Nat) (h : ¬ k < xs.length) (hl : xs.length = ys.length) (ha : xs.take k = ys.take k) : decide (xs = ys) = true := by
  rw [List.take_of_length_le (by omega), List.take_of_length_le (by omega)] at ha
  simp [ha]

set_option maxHeartbeats 1600000 in
theorem rItems_any (a b : Option Addr) (xs ys : List It) (ca cb : Nat) (w : World) (hx : RowT w a xs) (hy : RowT w b ys) :
    Calls Tryz.prog 27 #[.slice a xs.length ca, .slice b ys.length cb] w fun e w' => e = .returned (.bool (decide (xs = ys))) ∧ Below w.heap.size w w' := by
  have hlx := hx.1
  have hly := hy.1
  by_cases hl : xs.length = ys.length
  · have HL := Lib.hid hl
    have d0 : ((xs.length : Int) != (ys.length : Int)) = false := by simp [hl]
    clear hl
    go_enter Tryz.func27, Tryz.ntmps27
    go_wp2
    go_loopw [5] (fun i w' => ItemsAt xs ys w i w') (fun i _ => xs.length - (intOf i).toNat)
    case atStart => exact ⟨0, Nat.zero_le _, rfl, by simp, Below.refl _ _⟩
    case round =>
      obtain ⟨k, hk, rfl, ha, hB⟩ := hrel
      have HA := Lib.hid ha
      clear ha
      by_cases hlt : k < xs.length
      · have d1 : decide (k < xs.length) = true := by simpa using hlt
        have hlt2 : k < ys.length := by have := HL.out; omega
        obtain ⟨b1, o1, rfl, hb1, hc1, hc2, _, _⟩ := (hx.later hB).get k hlt
        obtain ⟨b2, o2, rfl, hb2, hc3, hc4, _, _⟩ := (hy.later hB).get k hlt2
        have g0 : (0 : Int) ≤ (k : Int) := by omega
        have g1 : (k : Int) < (xs.length : Int) := by omega
        have g2 : (k : Int) < (ys.length : Int) := by omega
        have HS := Lib.hid (fun e => items_step xs ys k hlt hlt2 HA.out e)
        have HN := Lib.hid (fun e => items_no xs ys k hlt hlt2 e)
        generalize xs[k] = x at *
        generalize ys[k] = y at *
        cases e1 : (x.K == y.K)
        · have HF := Lib.hid (HN.out (fun e => by rw [e] at e1; simp at e1))
          go_wp2
          go_quiet (fail)
          go_wp2
          go_ret
          exact ⟨ret_bool HF.out.symm, below_drewN hB _⟩
        · cases e2 : (x.V == y.V)
          · have HF := Lib.hid (HN.out (fun e => by rw [e] at e2; simp at e2))
            go_wp2
            go_quiet (fail)
            go_wp2
            go_ret
            exact ⟨ret_bool HF.out.symm, below_drewN hB _⟩
          · have HF := Lib.hid (HS.out (it_ext x y (eq_of_beq e1) (eq_of_beq e2)))
            go_wp2
            go_quiet (fail)
            go_wp2
            go_roundw
            case rel => exact ⟨k + 1, by omega, by go_num, HF.out, below_drewN hB _⟩
            case measure => simp [intOf]; omega
      · have d1 : decide (k < xs.length) = false := by simpa using hlt
        have HF := Lib.hid (items_end xs ys k hlt HL.out HA.out)
        go_wp2
        go_ret
        exact ⟨ret_bool HF.out.symm, hB⟩
  · have d0 : ((xs.length : Int) != (ys.length : Int)) = true := by simp; omega
    have HF := Lib.hid (show decide (xs = ys) = false by rw [decide_eq_false_iff_not]; rintro rfl; exact hl rfl)
    clear hl
    go_enter Tryz.func27, Tryz.ntmps27
    go_wp2
    go_ret
    exact ⟨ret_bool HF.out.symm, Below.refl _ _⟩

theorem fr_dec (f g : Fr) (h1 : f.K = g.K) (h2 : f.R = g.R) (h3 : f.S = g.S) (h4 : f.P.K = g.P.K) (h5 : f.P.V = g.P.V) : decide (f = g) = decide (f.E = g.E) := by
  have hp := it_ext f.P g.P h4 h5
  cases f
  cases g
  simp_all

theorem fr_no (f g : Fr) (h : f.K ≠ g.K ∨ f.R ≠ g.R ∨ f.S ≠ g.S ∨ f.P.K ≠ g.P.K ∨ f.P.V ≠ g.P.V) : decide (f = g) = false := by
  rw [decide_eq_false_iff_not]
  rintro rfl
  simp at h

end Go.Proofs.YtbghpkdkfbpmeaaGreat
