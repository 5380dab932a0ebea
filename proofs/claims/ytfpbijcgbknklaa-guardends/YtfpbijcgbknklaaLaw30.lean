/-
  Contracts of the third laws' own helpers: within, Make.
-/
import Derived.Test.YtfpbijcgbknklaaConf2
namespace Go.Proofs.Ytfpbijcgbknklaa
open Go.RowKit Plait
set_option maxRecDepth 100000
set_option linter.unusedVariables false

theorem within3_any (a n : Int) (w : World) (hn : 0 < n) (hn2 : n ≤ 1099511627776) :
    Calls Try.prog 16 #[.int .i64 a, .int .i64 n] w fun e w' => e = .returned (.int .i64 (a % n)) ∧ w = w' := by
  have b1 : 0 ≤ a % n := Int.emod_nonneg _ (by omega)
  have b2 : a % n < n := Int.emod_lt_of_pos _ hn
  by_cases h0 : 0 ≤ a
  · go_enter Try.func16, Try.ntmps16
    go_wp2
    go_ret
    exact ⟨rfl, rfl⟩
  · have h1 : a.tmod n = -((-a) % n) := by
      rw [show a = -(-a) by omega, Int.neg_tmod, Int.tmod_eq_emod_of_nonneg (by omega)]; simp
    have c1 : 0 ≤ (-a) % n := Int.emod_nonneg _ (by omega)
    have c2 : (-a) % n < n := Int.emod_lt_of_pos _ hn
    by_cases hz : (-a) % n = 0
    · have h2 : a.tmod n = 0 := by rw [h1, hz]; rfl
      have HF := Lib.hid (show (0 : Int) = a % n by
        have : n ∣ -a := Int.dvd_of_emod_eq_zero hz
        exact (Int.emod_eq_zero_of_dvd (Int.dvd_neg.1 this)).symm)
      clear h1 hz c1 c2 b1 b2
      go_enter Try.func16, Try.ntmps16
      go_wp2
      go_ret
      exact ⟨ret_int HF.out, rfl⟩
    · obtain ⟨r, hr⟩ : ∃ r, r = (-a) % n := ⟨_, rfl⟩
      rw [← hr] at h1 c1 c2 hz
      have HF := Lib.hid (show -r + n = a % n by
        have e := Int.emod_add_mul_ediv (-a) n
        rw [← hr] at e
        have e2 : a = (-r + n) + n * (-((-a) / n) - 1) := by rw [Int.mul_sub, Int.mul_neg]; omega
        rw [e2, Int.add_mul_emod_self_left]
        exact (Int.emod_eq_of_lt (by omega) (by omega)).symm)
      clear hr b1 b2
      go_enter Try.func16, Try.ntmps16
      go_wp2
      go_ret
      exact ⟨ret_int HF.out, rfl⟩

/-- What a call answers that makes a network. -/
def ConfRet (c : Cf) (w : World) (e : Ending) (w' : World) : Prop :=
  ∃ (a : Option Addr) (cap : Nat), e = .returned (.agg #[.int .i64 c.N, .int .i64 c.Pi, .int .i64 c.E, .int .i64 c.G, .int .i64 c.F, .slice a c.P.length cap]) ∧ Row w' a c.P ∧ (∀ x, a = some x → w.heap.size ≤ x.block) ∧ Below w.heap.size w w'

/-- The same, and that what it holds has room. -/
def ConfRet2 (c : Cf) (w : World) (e : Ending) (w' : World) : Prop :=
  ∃ (a : Option Addr) (cap : Nat), e = .returned (.agg #[.int .i64 c.N, .int .i64 c.Pi, .int .i64 c.E, .int .i64 c.G, .int .i64 c.F, .slice a c.P.length cap]) ∧ Row w' a c.P ∧ (∀ x, a = some x → w.heap.size ≤ x.block) ∧ c.P.length ≤ cap ∧ Below w.heap.size w w'
theorem OwnI.room {base : Nat} {w : World} {a : Option Addr} {n cap : Nat} {zs : List Int} (h : OwnI base w (.slice a n cap) zs) : zs.length ≤ cap := by
  rcases h.2 with ⟨hv, h0⟩ | ⟨g, cap', cur, hv, _, _, hcap, _⟩
  · omega
  · injection hv with _ _ e
    rw [e]
    exact hcap

/-- Where Make's variable g stands: h is the heap's size at the start. -/
def MakeG (c : Cf) (a : Option Addr) (cap : Nat) (w : World) (pi f : Int) (wx : World) : Prop :=
  Below w.heap.size w wx ∧ Blk wx w.heap.size 24 (confBox c a cap) ∧ Blk wx (w.heap.size + 1) 24 #[.int .i64 0, .int .i64 0, .int .i64 0, .int .i64 0, .int .i64 0, .slice none 0 0] ∧
    Blk wx (w.heap.size + 2) 24 #[.int .i64 (6 + c.N % 7), .int .i64 pi, .int .i64 (c.E % 21), .int .i64 (c.G % 21), .int .i64 f, .slice none 0 0]

/-- The loop over the pairs. -/
def MakeL (c : Cf) (a : Option Addr) (cap : Nat) (w : World) (i : Value) (wx : World) : Prop :=
  ∃ (k : Nat) (v : Value), k ≤ c.P.length ∧ k ≤ 3 ∧ i = .int .i64 k ∧ Below w.heap.size w wx ∧ Blk wx w.heap.size 24 (confBox c a cap) ∧ Blk wx (w.heap.size + 1) 24 #[.int .i64 0, .int .i64 0, .int .i64 0, .int .i64 0, .int .i64 0, .slice none 0 0] ∧
    Blk wx (w.heap.size + 2) 24 #[.int .i64 (6 + c.N % 7), .int .i64 (makeC c).Pi, .int .i64 (c.E % 21), .int .i64 (c.G % 21), .int .i64 (makeC c).F, v] ∧ OwnI (w.heap.size + 3) wx v ((makeC c).P.take k)

theorem makeP_get (c : Cf) (k : Nat) (h : k < c.P.length) (h3 : k < 3) : ∃ hk : k < (makeC c).P.length, (makeC c).P[k] = c.P[k] % (6 + c.N % 7 + 1) - 1 := by
  have hk : k < (makeC c).P.length := by simp [makeC]; omega
  exact ⟨hk, by simp [makeC]⟩

theorem makeP_len (c : Cf) : (makeC c).P.length = min 3 c.P.length := by simp [makeC]

/-- Make's last step: g is laid into the result's place. -/
theorem make_end (c : Cf) (w wr : World) (av : Option Addr) (cv : Nat) (hB : Below w.heap.size w wr)
    (k2 : Blk wr (w.heap.size + 1) 24 #[.int .i64 0, .int .i64 0, .int .i64 0, .int .i64 0, .int .i64 0, .slice none 0 0]) (hown : OwnI (w.heap.size + 3) wr (.slice av (makeC c).P.length cv) (makeC c).P) {a : Act}
    (h2 : a.tmps[2]? = some (.pointer (some ⟨w.heap.size + 1, 0, none⟩)) := by rfl) (hd : a.defers = [] := by rfl) :
    bodyPost Try.prog Try.f8 (ConfRet2 (makeC c) w) Exit.ret a
      ((((((wr.setCell ⟨w.heap.size + 1, 0, none⟩ (.int .i64 (6 + c.N % 7))).setCell ⟨w.heap.size + 1, 1, none⟩ (.int .i64 (makeC c).Pi)).setCell ⟨w.heap.size + 1, 2, none⟩ (.int .i64 (c.E % 21))).setCell
        ⟨w.heap.size + 1, 3, none⟩ (.int .i64 (c.G % 21))).setCell ⟨w.heap.size + 1, 4, none⟩ (.int .i64 (makeC c).F)).setCell ⟨w.heap.size + 1, 5, none⟩ (.slice av (makeC c).P.length cv)) := by
  have kk := ((((((k2.set 0 (.int .i64 (6 + c.N % 7))).set 1 (.int .i64 (makeC c).Pi)).set 2 (.int .i64 (c.E % 21))).set 3 (.int .i64 (c.G % 21))).set 4 (.int .i64 (makeC c).F)).set 5 (.slice av (makeC c).P.length cv))
  have hb2 := (((((hB.setCell (p := ⟨w.heap.size + 1, 0, none⟩) (by simp) (.int .i64 (6 + c.N % 7))).setCell (p := ⟨w.heap.size + 1, 1, none⟩) (by simp) (.int .i64 (makeC c).Pi)).setCell (p := ⟨w.heap.size + 1, 2, none⟩) (by simp) (.int .i64 (c.E % 21))).setCell
    (p := ⟨w.heap.size + 1, 3, none⟩) (by simp) (.int .i64 (c.G % 21))).setCell (p := ⟨w.heap.size + 1, 4, none⟩) (by simp) (.int .i64 (makeC c).F)).setCell (p := ⟨w.heap.size + 1, 5, none⟩) (by simp) (.slice av (makeC c).P.length cv)
  have ho := (((((hown.far ⟨w.heap.size + 1, 0, none⟩ (.int .i64 (6 + c.N % 7)) (by simp)).far ⟨w.heap.size + 1, 1, none⟩ (.int .i64 (makeC c).Pi) (by simp)).far ⟨w.heap.size + 1, 2, none⟩ (.int .i64 (c.E % 21)) (by simp)).far
    ⟨w.heap.size + 1, 3, none⟩ (.int .i64 (c.G % 21)) (by simp)).far ⟨w.heap.size + 1, 4, none⟩ (.int .i64 (makeC c).F) (by simp)).far ⟨w.heap.size + 1, 5, none⟩ (.slice av (makeC c).P.length cv) (by simp)
  generalize (((((wr.setCell _ _).setCell _ _).setCell _ _).setCell _ _).setCell _ _).setCell _ _ = W at *
  have q := kk.at
  simp at q
  refine bodyPost_ret (v := .agg #[.int .i64 (makeC c).N, .int .i64 (makeC c).Pi, .int .i64 (makeC c).E, .int .i64 (makeC c).G, .int .i64 (makeC c).F, .slice av (makeC c).P.length cv]) (by simp [results, Try.results8, go_sem, h2, q, makeC]) hd ⟨av, cv, rfl, ho.row ?_ ?_, ?_, ho.room, hb2⟩
  · have := (makeC_ok c).len
    omega
  · intro z hz
    have := (makeC_ok c).all z hz
    have := (makeC_ok c).n12
    omega
  · intro x hx
    have := (ho.lt x.block (by rw [hx]; rfl)).1
    omega

set_option maxHeartbeats 1600000 in
theorem make_any2 (c : Cf) (a : Option Addr) (cap : Nat) (w : World) (hrow : Row w a c.P) :
    Calls Try.prog 8 #[.agg #[.int .i64 c.N, .int .i64 c.Pi, .int .i64 c.E, .int .i64 c.G, .int .i64 c.F, .slice a c.P.length cap]] w (ConfRet2 (makeC c) w) := by
  have HF := Lib.hid (show (makeC c).F = if c.F % 3 = 0 then 65535 - c.F % 40 else c.F % 65536 from rfl)
  have b3 : 0 ≤ c.F % 3 := by omega
  have b40 : 0 ≤ c.F % 40 := by omega
  have b40' : c.F % 40 < 40 := by omega
  go_enter Try.func8, Try.ntmps8
  go_upto_region 1 with fail
  go_cut [3] (fun s3 wx => s3 = .pointer (some ⟨w.heap.size + 2, 0, none⟩) ∧ MakeG c a cap w 0 (c.F % 65536) wx)
  case first =>
    have w6 : IntKind.i64.wrap (6 + c.N % 7) = 6 + c.N % 7 := wrap_in _ (by omega) (by omega)
    go_region_held3 (fun W => W.cell? ⟨w.heap.size, 0, none⟩ = some (.int .i64 c.N) ∧ W.cell? ⟨w.heap.size, 2, none⟩ = some (.int .i64 c.E) ∧ W.cell? ⟨w.heap.size, 3, none⟩ = some (.int .i64 c.G) ∧ W.cell? ⟨w.heap.size, 4, none⟩ = some (.int .i64 c.F)) (go_keep)
      (first | (go_at_call 16; refine (within3_any _ _ _ ?_ ?_).mono ?_; omega; omega; rintro e wl ⟨rfl, rfl⟩))
    all_goals go_wp2_with fail
    all_goals go_meet
    all_goals
      refine ⟨rfl, ?_⟩
      exact ⟨(((alloc_below w _).alloc (by simp) _).alloc (by simp; omega) _).drew, ((Blk.new w _ _).alloc _).alloc _, (Blk.newAt _ _ (by simp)).alloc _, Blk.newAt _ _ (by simp)⟩
  case rest =>
    obtain ⟨rfl, hB, k1, k2, k3⟩ := hcut
    have q1 := k1.at
    unfold confBox at q1
    have q3 := k3.at
    have f3 := k3.frozen
    go_upto_if 22 with (go_at_call 16; refine (within3_any c.F 3 _ (by omega) (by omega)).mono ?_; rintro e wl ⟨rfl, rfl⟩)
    go_cut [] (fun wx => MakeG c a cap w 0 (makeC c).F wx)
    case first =>
      by_cases h3 : c.F % 3 = 0
      · have d3 : (c.F % 3 == 0) = true := by simpa using h3
        rw [if_pos h3] at HF
        clear h3
        go_wp2_with (go_at_call 16; refine (within3_any c.F 40 _ (by omega) (by omega)).mono ?_; rintro e wl ⟨rfl, rfl⟩)
        go_meet
        have k3' := k3.set 4 (.int .i64 (65535 - c.F % 40))
        exact ⟨hB.setCell (by simp) _, k1.far (by simp) _, k2.far (by simp) _, by rw [HF.out]; exact k3'⟩
      · have d3 : (c.F % 3 == 0) = false := by simpa using h3
        rw [if_neg h3] at HF
        clear h3
        go_wp2_with fail
        go_meet
        exact ⟨hB, k1, k2, by rw [HF.out]; exact k3⟩
    case rest =>
      clear hB k1 k2 k3 q1 q3 f3
      obtain ⟨hB, k1, k2, k3⟩ := hcut
      have q1 := k1.at
      unfold confBox at q1
      have q3 := k3.at
      have f3 := k3.frozen
      go_upto_region 4 with fail
      go_cut [] (fun wx => MakeG c a cap w (makeC c).Pi (makeC c).F wx)
      case first =>
        have z1 : IntKind.i64.wrap (c.E % 21 + c.G % 21) = c.E % 21 + c.G % 21 := wrap_in _ (by omega) (by omega)
        have z2 : IntKind.i64.wrap (c.E % 21 + c.G % 21 + 1) = c.E % 21 + c.G % 21 + 1 := wrap_in _ (by omega) (by omega)
        have z3 : IntKind.i64.wrap (4 * (c.E % 21 + c.G % 21 + 1)) = 4 * (c.E % 21 + c.G % 21 + 1) := wrap_in _ (by omega) (by omega)
        have z4 : IntKind.i64.wrap (4 * (c.E % 21 + c.G % 21 + 1) + c.Pi % 100) = 4 * (c.E % 21 + c.G % 21 + 1) + c.Pi % 100 := wrap_in _ (by omega) (by omega)
        have HP := Lib.hid (show (makeC c).Pi = 4 * (c.E % 21 + c.G % 21 + 1) + c.Pi % 100 from rfl)
        have t1 := q1 1
        have t2 := q3 2
        have t3 := q3 3
        simp at t1 t2 t3
        go_region_held3 (fun W => W.cell? ⟨w.heap.size, 1, none⟩ = some (.int .i64 c.Pi) ∧ W.cell? ⟨w.heap.size + 2, 2, none⟩ = some (.int .i64 (c.E % 21)) ∧ W.cell? ⟨w.heap.size + 2, 3, none⟩ = some (.int .i64 (c.G % 21))) (first | (go_keep; done) | exact ⟨keep_set t1 (by simp), keep_set t2 (by simp), keep_set t3 (by simp)⟩)
          (first | (go_at_call 16; refine (within3_any _ _ _ ?_ ?_).mono ?_; omega; omega; rintro e wl ⟨rfl, rfl⟩))
        all_goals go_wp2_with fail
        all_goals go_meet
        all_goals
          have k3' := k3.set 1 (.int .i64 (4 * (c.E % 21 + c.G % 21 + 1) + c.Pi % 100))
          exact ⟨(hB.setCell (by simp) _).drew, k1.far (by simp) _, k2.far (by simp) _, by rw [HP.out]; exact k3'⟩
      case rest =>
        clear hB k1 k2 k3 q1 q3 f3
        obtain ⟨hB, k1, k2, k3⟩ := hcut
        go_wp2
        go_loopw [4] (fun i w' => MakeL c a cap w i w') (fun i _ => 3 - (intOf i).toNat)
        case atStart => exact ⟨0, _, Nat.zero_le _, by omega, rfl, hB, k1, k2, k3, OwnI.nil _ _⟩
        case round =>
          clear hB k1 k2 k3
          obtain ⟨k, v, hk, hk3, rfl, hB, k1, k2, k3, hown⟩ := hrel
          have q1 := k1.at
          unfold confBox at q1
          have q3 := k3.at
          have f3 := k3.frozen
          by_cases hlt : k < c.P.length
          · have d1 : decide (k < c.P.length) = true := by simpa using hlt
            by_cases h3 : k < 3
            · have d2 : decide ((k : Int) < 3) = true := by simp; omega
              obtain ⟨b, off, rfl, hbl, hcell, hz1, hz2⟩ := (hrow.later hB).get k hlt
              have hbw : b < w.heap.size := by
                obtain ⟨b', off', e, hlt', _⟩ := hrow.get k hlt
                simp at e
                omega
              obtain ⟨hkl, hkg⟩ := makeP_get c k hlt h3
              have HT := Lib.hid (show (makeC c).P.take (k + 1) = (makeC c).P.take k ++ [c.P[k] % (6 + c.N % 7 + 1) - 1] by rw [List.take_succ_eq_append_getElem hkl, hkg])
              clear hkg
              have hL : ((makeC c).P.take k).length ≤ 3 := by rw [List.length_take]; omega
              generalize c.P[k] = z at *
              generalize (makeC c).P.take k = PL at *
              obtain ⟨av, cv, rfl⟩ := hown.form
              have g0 : (0 : Int) ≤ (k : Int) := by omega
              have g1 : (k : Int) < (c.P.length : Int) := by omega
              have hol := hown.lt
              have hz := k3.lt
              have m0 : 0 ≤ z % (6 + c.N % 7 + 1) := Int.emod_nonneg _ (by omega)
              have m1 : z % (6 + c.N % 7 + 1) < 6 + c.N % 7 + 1 := Int.emod_lt_of_pos _ (by omega)
              have z1 : IntKind.i64.wrap (6 + c.N % 7 + 1) = 6 + c.N % 7 + 1 := wrap_in _ (by omega) (by omega)
              have z2 : IntKind.i64.wrap (z % (6 + c.N % 7 + 1) - 1) = z % (6 + c.N % 7 + 1) - 1 := wrap_in _ (by omega) (by omega)
              have t1 := q1 5
              have t2 := q3 0
              simp at t1 t2
              go_wp2
              go_region_law (first
                | (refine step_app1 _ (by rfl) (.tmp 52) (.tmp 63) (by rfl) (w.heap.size + 3) (.slice av PL.length cv) PL (by simp [Act.eval]) (hown.later ((Below.refl _ _).drew.alloc (by simp) _)) wr.heap.size 1 (z % (6 + c.N % 7 + 1) - 1) (by simp [Act.eval]) (heap_alloc_new _ _) (by omega) (by simp; omega) ?_; intro g cap' w2 h1' h2' h3' h4'; have k3w := (Blk.alloc (w := wr.drew) k3 _).grown h2' (fun e => by have := (hol _ e.symm).1; omega); have q3w := k3w.at 5; have f3w := k3w.frozen 5)
                | (go_simp; go_at_call 16; refine (within3_any _ _ _ ?_ ?_).mono ?_; omega; omega; rintro e wl ⟨rfl, rfl⟩))
              all_goals
                go_wp2
                go_roundw
                case rel =>
                  refine ⟨k + 1, _, by omega, by omega, by go_num, ?_, ?_, ?_, k3w.set 5 _, ?_⟩
                  · exact (below_grown (hB.drew.alloc hB.drew.size _) (hB.drew.alloc hB.drew.size _).size h2' (fun g hg => by have := (hol g hg).1; omega)).setCell (by simp) _
                  · exact ((Blk.alloc (w := wr.drew) k1 _).grown h2' (fun e => by have := (hol _ e.symm).1; omega)).far (by simp) _
                  · exact ((Blk.alloc (w := wr.drew) k2 _).grown h2' (fun e => by have := (hol _ e.symm).1; omega)).far (by simp) _
                  · rw [HT.out]
                    exact h1'.far ⟨w.heap.size + 2, 5, none⟩ _ (by simp)
                case measure => simp [intOf]; omega
            · have d2 : decide ((k : Int) < 3) = false := by simp; omega
              have HL := Lib.hid (show (makeC c).P.take k = (makeC c).P from List.take_of_length_le (by rw [makeP_len]; omega))
              rw [HL.out] at hown
              obtain ⟨av, cv, rfl⟩ := hown.form
              have q2 := k2.at
              have f2 := k2.frozen
              go_wp2
              exact make_end c w wr av cv hB k2 hown
          · have d1 : decide (k < c.P.length) = false := by simpa using hlt
            have HL := Lib.hid (show (makeC c).P.take k = (makeC c).P from List.take_of_length_le (by rw [makeP_len]; omega))
            rw [HL.out] at hown
            obtain ⟨av, cv, rfl⟩ := hown.form
            have q2 := k2.at
            have f2 := k2.frozen
            go_wp2
            exact make_end c w wr av cv hB k2 hown

theorem make_any (c : Cf) (a : Option Addr) (cap : Nat) (w : World) (hrow : Row w a c.P) :
    Calls Try.prog 8 #[.agg #[.int .i64 c.N, .int .i64 c.Pi, .int .i64 c.E, .int .i64 c.G, .int .i64 c.F, .slice a c.P.length cap]] w (ConfRet (makeC c) w) := (make_any2 c a cap w hrow).mono fun e w' ⟨da, dc, h1, h2, h3, _, h4⟩ => ⟨da, dc, h1, h2, h3, h4⟩

end Go.Proofs.Ytfpbijcgbknklaa
