/-
  Contracts of package arb, third part: the text that is taken, and what is taken of two sides.
-/
import Derived.Test.YtkflijbhlibadabDoorK11
namespace Go.Proofs.YtkflijbhlibadabDoor
open Go.RowKit Plait
set_option maxRecDepth 100000
set_option linter.unusedVariables false
set_option linter.unusedSimpArgs false

theorem chosen_none (ps : List Cp) (h : ps.filter (·.b) = []) : (ps = [] → chosenL ps = []) ∧ ∀ (h0 : 0 < ps.length), chosenL ps = ps[0].text := by
  unfold chosenL
  rw [h]
  cases ps with
  | nil => exact ⟨fun _ => rfl, fun h0 => by simp at h0⟩
  | cons p r => exact ⟨fun e => (by cases e), fun _ => rfl⟩
theorem chosen_one (ps : List Cp) (p : Cp) (h : ps.filter (·.b) = [p]) : chosenL ps = p.text := by unfold chosenL; rw [h]
theorem chosen_two (ps : List Cp) (p q : Cp) (r : List Cp) (h : ps.filter (·.b) = p :: q :: r) : chosenL ps = if p.text = q.text then p.text else [] := by unfold chosenL; rw [h]
theorem filter_text (ps : List Cp) (p : Cp) (h : p ∈ ps.filter (·.b)) : p.text = p.x.O := by
  have := (List.mem_filter.1 h).2
  unfold Cp.text
  rw [show p.b = true from this]; rfl

/-- A row of compared copies: where it lies. -/
theorem OwnC.blk {base : Nat} {W : World} {a : Option Addr} {cap : Nat} {ps : List Cp} (h : OwnC base W (.slice a ps.length cap) ps) (h0 : 0 < ps.length) :
    ∃ (g : Nat) (cur : Array Value), a = some ⟨g, 0, none⟩ ∧ Blk W g 92 cur ∧ ∀ i (hi : i < ps.length), cur[i * 4]? = some (.string ⟨ps[i].x.D.toArray⟩) ∧ cur[i * 4 + 1]? = some (.string ⟨ps[i].x.S.toArray⟩) ∧ cur[i * 4 + 2]? = some (.string ⟨ps[i].x.O.toArray⟩) ∧ cur[i * 4 + 3]? = some (.int .i64 ps[i].x.F) := by
  rcases h.2 with ⟨_, hn⟩ | ⟨g, c, cur, hv, hb, hg, hc, hm, hs, ht⟩
  · omega
  · injection hv with hv
    refine ⟨g, cur, hv, hg, fun i hi => ?_⟩
    have key : ∀ j, j < ps.length * 4 → cur[j]? = (sdCells ps)[j]? := by
      intro j hj
      rw [← ht, List.getElem?_take_of_lt (by omega), ← Array.getElem?_toList]
    have cells : ∀ (qs : List Cp) (i : Nat) (hi : i < qs.length), (sdCells qs)[i * 4]? = some (.string ⟨qs[i].x.D.toArray⟩) ∧ (sdCells qs)[i * 4 + 1]? = some (.string ⟨qs[i].x.S.toArray⟩) ∧ (sdCells qs)[i * 4 + 2]? = some (.string ⟨qs[i].x.O.toArray⟩) ∧ (sdCells qs)[i * 4 + 3]? = some (.int .i64 qs[i].x.F) := by
      intro qs
      induction qs with
      | nil => intro i hi; simp at hi
      | cons p r ih =>
        intro i hi
        cases i with
        | zero => exact ⟨rfl, rfl, rfl, rfl⟩
        | succ i =>
          have := ih i (by simpa using hi)
          have e : ∀ m, (sdCells (p :: r))[(i + 1) * 4 + m]? = (sdCells r)[i * 4 + m]? := by
            intro m
            show ([Value.string ⟨p.x.D.toArray⟩, .string ⟨p.x.S.toArray⟩, .string ⟨p.x.O.toArray⟩, .int .i64 p.x.F] ++ sdCells r)[(i + 1) * 4 + m]? = _
            rw [List.getElem?_append_right (by simp; omega)]
            congr 1
            simp; omega
          refine ⟨?_, ?_, ?_, ?_⟩
          · rw [show (i + 1) * 4 = (i + 1) * 4 + 0 from rfl, e 0]; exact this.1
          · rw [e 1]; exact this.2.1
          · rw [e 2]; exact this.2.2.1
          · rw [e 3]; exact this.2.2.2
    obtain ⟨k0, k1, k2, k3⟩ := cells ps i hi
    exact ⟨by rw [key _ (by omega)]; exact k0, by rw [key _ (by omega)]; exact k1, by rw [key _ (by omega)]; exact k2, by rw [key _ (by omega)]; exact k3⟩

@[go_sem] theorem mtC (v : Value) (w : World) : (method 234 92 v "plaiting/arb.text").run Tryd.prog w = .ok (55, v) w := by kernel_rfl

@[go_sem] theorem mtL (v : Value) (w : World) : (method 234 93 v "plaiting/arb.text").run Tryd.prog w = .ok (102, v) w := by kernel_rfl


set_option maxHeartbeats 1600000 in
theorem achosen_any (ra : Option Addr) (ps : List Cp) (rc : Nat) (w : World) (hr : RowV w ra ps) (hl : ps.length ≤ 2) :
    Calls Tryd.prog 38 #[.slice ra ps.length rc] w fun e w' => e = .returned (.string ⟨(chosenL ps).toArray⟩) ∧ Below w.heap.size w w' := by
  have HCO := Lib.hid (fun W h => acomparedOf_any ra ps rc W h (by omega))
  have hfl : (ps.filter (·.b)).length ≤ 2 := Nat.le_trans (List.length_filter_le _ _) hl
  obtain ⟨fs, hfs⟩ : ∃ fs, ps.filter (·.b) = fs := ⟨_, rfl⟩
  rw [hfs] at HCO hfl
  have HFT := Lib.hid (fun p h => filter_text ps p (by rw [hfs]; exact h))
  rcases fs with _ | ⟨p, fs⟩
  · have hC := chosen_none ps hfs
    clear hfs hfl
    by_cases h0 : 0 < ps.length
    · have d0 : decide (0 < ps.length) = true := by simpa using h0
      have d0' : decide (0 < (ps.length : Int)) = true := by simp; omega
      have HC := Lib.hid (hC.2 h0)
      obtain ⟨rb, rfl, hrb, hrc⟩ := hr.get 0 h0
      have g1 : (0 : Int) < (ps.length : Int) := by omega
      obtain ⟨p, hp⟩ : ∃ p, p = ps[0] := ⟨_, rfl⟩
      rw [← hp] at HC hrc
      clear hC hp
      obtain ⟨b, z⟩ := p
      cases b
      all_goals
        unfold ifV at hrc
        go_enter Tryd.func38, Tryd.ntmps38
        go_wp2_with fail
        refine (HCO.out _ hr).mono ?_
        rintro e w2 ⟨v, rfl, hoC, hB⟩
        obtain ⟨av, cv, rfl⟩ := hoC.form
        clear HCO
        go_upto_region 2 with fail
        refine region_slots [some 7, some 8, some 9, some 10, some 11, some 12, some 13, some 14, some 15, some 16, some 17, some 18, some 19, some 20, some 6] [none, none, none, none, none, none, none, none, none, none, none, none, none, none, none] 37 15 rfl (by kernel_rfl) (by kernel_rfl) rfl rfl ?_
        apply step_fix
        · intro a W Zs hS hFm hz hd
          have h3 := hFm.old 3 rfl
          conv at h3 => rhs; whnf
          replace h3 := ev_get hFm.size h3
          refine .inl ⟨wanted_none rfl _, fun K hK => ?_⟩
          have HK := Lib.hid hK
          clear hd hFm hK
          go_simp
          exact HK.out _ _ rfl (Below.refl _ _)
        simp only [List.nil_append, List.cons_append]
        apply step_fix
        · intro a W Zs hS hFm hz hd
          have h7 := ev_get hFm.size (hd 0 7 rfl rfl)
          refine .inl ⟨wanted_none rfl _, fun K hK => ?_⟩
          have HK := Lib.hid hK
          clear hd hFm hK
          go_simp
          exact HK.out _ _ rfl (Below.refl _ _)
        simp only [List.nil_append, List.cons_append]
        apply step_fix
        · intro a W Zs hS hFm hz hd
          have h8 := ev_get hFm.size (hd 1 8 rfl rfl)
          refine .inl ⟨wanted_none rfl _, fun K hK => ?_⟩
          have HK := Lib.hid hK
          clear hd hFm hK
          go_simp
          exact HK.out _ _ rfl (Below.refl _ _)
        simp only [List.nil_append, List.cons_append]
        apply step_fix
        · intro a W Zs hS hFm hz hd
          have h9 := ev_get hFm.size (hd 2 9 rfl rfl)
          refine .inl ⟨wanted_none rfl _, fun K hK => ?_⟩
          have HK := Lib.hid hK
          clear hd hFm hK
          go_simp
          exact HK.out _ _ rfl (Below.refl _ _)
        simp only [List.nil_append, List.cons_append]
        apply step_fix
        · intro a W Zs hS hFm hz hd
          exact .inr ⟨wanted_not rfl rfl (hd 3 10 rfl rfl), rfl⟩
        simp only [List.nil_append, List.cons_append]
        apply step_fix
        · intro a W Zs hS hFm hz hd
          exact .inr ⟨wanted_not rfl rfl (hd 3 10 rfl rfl), rfl⟩
        simp only [List.nil_append, List.cons_append]
        apply step_fix
        · intro a W Zs hS hFm hz hd
          exact .inr ⟨wanted_not rfl rfl (hd 3 10 rfl rfl), rfl⟩
        simp only [List.nil_append, List.cons_append]
        apply step_fix
        · intro a W Zs hS hFm hz hd
          exact .inr ⟨wanted_not rfl rfl (hd 3 10 rfl rfl), rfl⟩
        simp only [List.nil_append, List.cons_append]
        apply step_fix
        · intro a W Zs hS hFm hz hd
          exact .inr ⟨wanted_not rfl rfl (hd 3 10 rfl rfl), rfl⟩
        simp only [List.nil_append, List.cons_append]
        apply step_fix
        · intro a W Zs hS hFm hz hd
          exact .inr ⟨wanted_not rfl rfl (hd 3 10 rfl rfl), rfl⟩
        simp only [List.nil_append, List.cons_append]
        apply step_fix
        · intro a W Zs hS hFm hz hd
          exact .inr ⟨wanted_not rfl rfl (hd 3 10 rfl rfl), rfl⟩
        simp only [List.nil_append, List.cons_append]
        apply step_fix
        · intro a W Zs hS hFm hz hd
          exact .inr ⟨wanted_not rfl rfl (hd 3 10 rfl rfl), rfl⟩
        simp only [List.nil_append, List.cons_append]
        apply step_fix
        · intro a W Zs hS hFm hz hd
          exact .inr ⟨wanted_not rfl rfl (hd 3 10 rfl rfl), rfl⟩
        simp only [List.nil_append, List.cons_append]
        apply step_fix
        · intro a W Zs hS hFm hz hd
          have h10 := ev_get hFm.size (hd 3 10 rfl rfl)
          have h19 := ev_get hFm.size (hd 12 19 rfl rfl)
          refine .inl ⟨wanted_none rfl _, fun K hK => ?_⟩
          have HK := Lib.hid hK
          clear hd hFm hK
          go_simp
          exact HK.out _ _ rfl (Below.refl _ _)
        simp only [List.nil_append, List.cons_append]
        apply step_fix
        · intro a W Zs hS hFm hz hd
          have h20 := ev_get hFm.size (hd 13 20 rfl rfl)
          refine .inl ⟨wanted_none rfl _, fun K hK => ?_⟩
          have HK := Lib.hid hK
          clear hd hFm hK
          go_simp
          exact HK.out _ _ rfl (Below.refl _ _)
        simp only [List.nil_append, List.cons_append]
        intro a w3 Zs hS hFm hz hd
        have e6 := hd 14 6 (by decide) rfl
        have e0 := hFm.old 0 rfl
        conv at e0 => rhs; whnf
        have e1 := hFm.old 1 rfl
        conv at e1 => rhs; whnf
        have e2 := hFm.old 2 rfl
        conv at e2 => rhs; whnf
        have e3 := hFm.old 3 rfl
        conv at e3 => rhs; whnf
        have e4 := hFm.old 4 rfl
        conv at e4 => rhs; whnf
        have e5 := hFm.old 5 rfl
        conv at e5 => rhs; whnf
        have e21 := hFm.old 21 rfl
        conv at e21 => rhs; whnf
        have e22 := hFm.old 22 rfl
        conv at e22 => rhs; whnf
        have e23 := hFm.old 23 rfl
        conv at e23 => rhs; whnf
        have e24 := hFm.old 24 rfl
        conv at e24 => rhs; whnf
        have e25 := hFm.old 25 rfl
        conv at e25 => rhs; whnf
        have e26 := hFm.old 26 rfl
        conv at e26 => rhs; whnf
        have e27 := hFm.old 27 rfl
        conv at e27 => rhs; whnf
        have e28 := hFm.old 28 rfl
        conv at e28 => rhs; whnf
        have e29 := hFm.old 29 rfl
        conv at e29 => rhs; whnf
        have e30 := hFm.old 30 rfl
        conv at e30 => rhs; whnf
        have e31 := hFm.old 31 rfl
        conv at e31 => rhs; whnf
        have e32 := hFm.old 32 rfl
        conv at e32 => rhs; whnf
        have e33 := hFm.old 33 rfl
        conv at e33 => rhs; whnf
        have e34 := hFm.old 34 rfl
        conv at e34 => rhs; whnf
        have e35 := hFm.old 35 rfl
        conv at e35 => rhs; whnf
        have e36 := hFm.old 36 rfl
        conv at e36 => rhs; whnf
        have hsz := hFm.size
        have hdf := hFm.defers
        clear hd hFm
        obtain ⟨t, df⟩ := a
        simp only at hsz hdf
        subst hdf
        obtain ⟨x, hx⟩ : ∃ x : Nat → Value, ∀ i, t.getD i undef = x i := ⟨fun i => t.getD i undef, fun _ => rfl⟩
        have h6 := (hx 6).symm.trans e6
        have h0 := (hx 0).symm.trans e0
        have h1 := (hx 1).symm.trans e1
        have h2 := (hx 2).symm.trans e2
        have h3 := (hx 3).symm.trans e3
        have h4 := (hx 4).symm.trans e4
        have h5 := (hx 5).symm.trans e5
        have h21 := (hx 21).symm.trans e21
        have h22 := (hx 22).symm.trans e22
        have h23 := (hx 23).symm.trans e23
        have h24 := (hx 24).symm.trans e24
        have h25 := (hx 25).symm.trans e25
        have h26 := (hx 26).symm.trans e26
        have h27 := (hx 27).symm.trans e27
        have h28 := (hx 28).symm.trans e28
        have h29 := (hx 29).symm.trans e29
        have h30 := (hx 30).symm.trans e30
        have h31 := (hx 31).symm.trans e31
        have h32 := (hx 32).symm.trans e32
        have h33 := (hx 33).symm.trans e33
        have h34 := (hx 34).symm.trans e34
        have h35 := (hx 35).symm.trans e35
        have h36 := (hx 36).symm.trans e36
        have ht' : t = #[x 0, x 1, x 2, x 3, x 4, x 5, x 6, x 7, x 8, x 9, x 10, x 11, x 12, x 13, x 14, x 15, x 16, x 17, x 18, x 19, x 20, x 21, x 22, x 23, x 24, x 25, x 26, x 27, x 28, x 29, x 30, x 31, x 32, x 33, x 34, x 35, x 36] := frame_lit t 37 hsz x hx
        clear hx hsz hz e6 e0 e1 e2 e3 e4 e5 e21 e22 e23 e24 e25 e26 e27 e28 e29 e30 e31 e32 e33 e34 e35 e36
        subst ht'
        (try dsimp only)
        rw [h6, h0, h1, h2, h3, h4, h5, h21, h22, h23, h24, h25, h26, h27, h28, h29, h30, h31, h32, h33, h34, h35, h36]
        clear h6 h0 h1 h2 h3 h4 h5 h21 h22 h23 h24 h25 h26 h27 h28 h29 h30 h31 h32 h33 h34 h35 h36
        rw [undef_fold]
        have hb := from_drew hS
        replace hB := hB.trans (hb.mono hB.size)
        have hrd := (bcell hB).1 rb 0 hrb
        rw [hrc] at hrd
        clear hS hrc hb
      · go_wp2_with fail
        refine (atextL_any z _).mono ?_
        rintro e w5 ⟨rfl, hb⟩
        go_wp2
        go_ret
        exact ⟨by rw [HC.out]; rfl, hB.trans (hb.mono hB.size)⟩
      · go_wp2_with fail
        refine (atextC_any z _).mono ?_
        rintro e w5 ⟨rfl, hb⟩
        go_wp2
        go_ret
        exact ⟨by rw [HC.out]; rfl, hB.trans (hb.mono hB.size)⟩
    · have hp : ps = [] := List.eq_nil_of_length_eq_zero (by omega)
      have HC := Lib.hid (hC.1 hp)
      clear hC h0
      subst hp
      go_enter Tryd.func38, Tryd.ntmps38
      go_wp2_with fail
      refine (HCO.out _ hr).mono ?_
      rintro e w2 ⟨v, rfl, hoC, hB⟩
      obtain ⟨av, cv, rfl⟩ := hoC.form
      clear HCO
      go_upto_region 2 with fail
      refine region_slots [some 7, some 8, some 9, some 10, some 11, some 12, some 13, some 14, some 15, some 16, some 17, some 18, some 19, some 20, some 6] [none, none, none, none, none, none, none, none, none, none, none, none, none, none, none] 37 15 rfl (by kernel_rfl) (by kernel_rfl) rfl rfl ?_
      apply step_fix
      · intro a W Zs hS hFm hz hd
        have h3 := hFm.old 3 rfl
        conv at h3 => rhs; whnf
        replace h3 := ev_get hFm.size h3
        refine .inl ⟨wanted_none rfl _, fun K hK => ?_⟩
        have HK := Lib.hid hK
        clear hd hFm hK
        go_simp
        exact HK.out _ _ rfl (Below.refl _ _)
      simp only [List.nil_append, List.cons_append]
      apply step_fix
      · intro a W Zs hS hFm hz hd
        have h7 := ev_get hFm.size (hd 0 7 rfl rfl)
        refine .inl ⟨wanted_none rfl _, fun K hK => ?_⟩
        have HK := Lib.hid hK
        clear hd hFm hK
        go_simp
        exact HK.out _ _ rfl (Below.refl _ _)
      simp only [List.nil_append, List.cons_append]
      apply step_fix
      · intro a W Zs hS hFm hz hd
        have h8 := ev_get hFm.size (hd 1 8 rfl rfl)
        refine .inl ⟨wanted_none rfl _, fun K hK => ?_⟩
        have HK := Lib.hid hK
        clear hd hFm hK
        go_simp
        exact HK.out _ _ rfl (Below.refl _ _)
      simp only [List.nil_append, List.cons_append]
      apply step_fix
      · intro a W Zs hS hFm hz hd
        have h9 := ev_get hFm.size (hd 2 9 rfl rfl)
        refine .inl ⟨wanted_none rfl _, fun K hK => ?_⟩
        have HK := Lib.hid hK
        clear hd hFm hK
        go_simp
        exact HK.out _ _ rfl (Below.refl _ _)
      simp only [List.nil_append, List.cons_append]
      apply step_fix
      · intro a W Zs hS hFm hz hd
        exact .inr ⟨wanted_not rfl rfl (hd 3 10 rfl rfl), rfl⟩
      simp only [List.nil_append, List.cons_append]
      apply step_fix
      · intro a W Zs hS hFm hz hd
        exact .inr ⟨wanted_not rfl rfl (hd 3 10 rfl rfl), rfl⟩
      simp only [List.nil_append, List.cons_append]
      apply step_fix
      · intro a W Zs hS hFm hz hd
        exact .inr ⟨wanted_not rfl rfl (hd 3 10 rfl rfl), rfl⟩
      simp only [List.nil_append, List.cons_append]
      apply step_fix
      · intro a W Zs hS hFm hz hd
        exact .inr ⟨wanted_not rfl rfl (hd 3 10 rfl rfl), rfl⟩
      simp only [List.nil_append, List.cons_append]
      apply step_fix
      · intro a W Zs hS hFm hz hd
        exact .inr ⟨wanted_not rfl rfl (hd 3 10 rfl rfl), rfl⟩
      simp only [List.nil_append, List.cons_append]
      apply step_fix
      · intro a W Zs hS hFm hz hd
        exact .inr ⟨wanted_not rfl rfl (hd 3 10 rfl rfl), rfl⟩
      simp only [List.nil_append, List.cons_append]
      apply step_fix
      · intro a W Zs hS hFm hz hd
        exact .inr ⟨wanted_not rfl rfl (hd 3 10 rfl rfl), rfl⟩
      simp only [List.nil_append, List.cons_append]
      apply step_fix
      · intro a W Zs hS hFm hz hd
        exact .inr ⟨wanted_not rfl rfl (hd 3 10 rfl rfl), rfl⟩
      simp only [List.nil_append, List.cons_append]
      apply step_fix
      · intro a W Zs hS hFm hz hd
        exact .inr ⟨wanted_not rfl rfl (hd 3 10 rfl rfl), rfl⟩
      simp only [List.nil_append, List.cons_append]
      apply step_fix
      · intro a W Zs hS hFm hz hd
        have h10 := ev_get hFm.size (hd 3 10 rfl rfl)
        have h19 := ev_get hFm.size (hd 12 19 rfl rfl)
        refine .inl ⟨wanted_none rfl _, fun K hK => ?_⟩
        have HK := Lib.hid hK
        clear hd hFm hK
        go_simp
        exact HK.out _ _ rfl (Below.refl _ _)
      simp only [List.nil_append, List.cons_append]
      apply step_fix
      · intro a W Zs hS hFm hz hd
        have h20 := ev_get hFm.size (hd 13 20 rfl rfl)
        refine .inl ⟨wanted_none rfl _, fun K hK => ?_⟩
        have HK := Lib.hid hK
        clear hd hFm hK
        go_simp
        exact HK.out _ _ rfl (Below.refl _ _)
      simp only [List.nil_append, List.cons_append]
      intro a w3 Zs hS hFm hz hd
      have e6 := hd 14 6 (by decide) rfl
      have e0 := hFm.old 0 rfl
      conv at e0 => rhs; whnf
      have e1 := hFm.old 1 rfl
      conv at e1 => rhs; whnf
      have e2 := hFm.old 2 rfl
      conv at e2 => rhs; whnf
      have e3 := hFm.old 3 rfl
      conv at e3 => rhs; whnf
      have e4 := hFm.old 4 rfl
      conv at e4 => rhs; whnf
      have e5 := hFm.old 5 rfl
      conv at e5 => rhs; whnf
      have e21 := hFm.old 21 rfl
      conv at e21 => rhs; whnf
      have e22 := hFm.old 22 rfl
      conv at e22 => rhs; whnf
      have e23 := hFm.old 23 rfl
      conv at e23 => rhs; whnf
      have e24 := hFm.old 24 rfl
      conv at e24 => rhs; whnf
      have e25 := hFm.old 25 rfl
      conv at e25 => rhs; whnf
      have e26 := hFm.old 26 rfl
      conv at e26 => rhs; whnf
      have e27 := hFm.old 27 rfl
      conv at e27 => rhs; whnf
      have e28 := hFm.old 28 rfl
      conv at e28 => rhs; whnf
      have e29 := hFm.old 29 rfl
      conv at e29 => rhs; whnf
      have e30 := hFm.old 30 rfl
      conv at e30 => rhs; whnf
      have e31 := hFm.old 31 rfl
      conv at e31 => rhs; whnf
      have e32 := hFm.old 32 rfl
      conv at e32 => rhs; whnf
      have e33 := hFm.old 33 rfl
      conv at e33 => rhs; whnf
      have e34 := hFm.old 34 rfl
      conv at e34 => rhs; whnf
      have e35 := hFm.old 35 rfl
      conv at e35 => rhs; whnf
      have e36 := hFm.old 36 rfl
      conv at e36 => rhs; whnf
      have hsz := hFm.size
      have hdf := hFm.defers
      clear hd hFm
      obtain ⟨t, df⟩ := a
      simp only at hsz hdf
      subst hdf
      obtain ⟨x, hx⟩ : ∃ x : Nat → Value, ∀ i, t.getD i undef = x i := ⟨fun i => t.getD i undef, fun _ => rfl⟩
      have h6 := (hx 6).symm.trans e6
      have h0 := (hx 0).symm.trans e0
      have h1 := (hx 1).symm.trans e1
      have h2 := (hx 2).symm.trans e2
      have h3 := (hx 3).symm.trans e3
      have h4 := (hx 4).symm.trans e4
      have h5 := (hx 5).symm.trans e5
      have h21 := (hx 21).symm.trans e21
      have h22 := (hx 22).symm.trans e22
      have h23 := (hx 23).symm.trans e23
      have h24 := (hx 24).symm.trans e24
      have h25 := (hx 25).symm.trans e25
      have h26 := (hx 26).symm.trans e26
      have h27 := (hx 27).symm.trans e27
      have h28 := (hx 28).symm.trans e28
      have h29 := (hx 29).symm.trans e29
      have h30 := (hx 30).symm.trans e30
      have h31 := (hx 31).symm.trans e31
      have h32 := (hx 32).symm.trans e32
      have h33 := (hx 33).symm.trans e33
      have h34 := (hx 34).symm.trans e34
      have h35 := (hx 35).symm.trans e35
      have h36 := (hx 36).symm.trans e36
      have ht' : t = #[x 0, x 1, x 2, x 3, x 4, x 5, x 6, x 7, x 8, x 9, x 10, x 11, x 12, x 13, x 14, x 15, x 16, x 17, x 18, x 19, x 20, x 21, x 22, x 23, x 24, x 25, x 26, x 27, x 28, x 29, x 30, x 31, x 32, x 33, x 34, x 35, x 36] := frame_lit t 37 hsz x hx
      clear hx hsz hz e6 e0 e1 e2 e3 e4 e5 e21 e22 e23 e24 e25 e26 e27 e28 e29 e30 e31 e32 e33 e34 e35 e36
      subst ht'
      (try dsimp only)
      rw [h6, h0, h1, h2, h3, h4, h5, h21, h22, h23, h24, h25, h26, h27, h28, h29, h30, h31, h32, h33, h34, h35, h36]
      clear h6 h0 h1 h2 h3 h4 h5 h21 h22 h23 h24 h25 h26 h27 h28 h29 h30 h31 h32 h33 h34 h35 h36
      rw [undef_fold]
      have hb := from_drew hS
      replace hB := hB.trans (hb.mono hB.size)
      go_wp2
      go_ret
      exact ⟨by rw [HC.out]; rfl, hB⟩
  · rcases fs with _ | ⟨q, fs⟩
    · have HC := Lib.hid (chosen_one ps p hfs)
      have HPT := Lib.hid (HFT.out p (List.mem_cons_self ..))
      clear hfs hfl
      go_enter Tryd.func38, Tryd.ntmps38
      go_wp2_with fail
      refine (HCO.out _ hr).mono ?_
      rintro e w2 ⟨v, rfl, hoC, hB⟩
      obtain ⟨av, cv, rfl⟩ := hoC.form
      obtain ⟨gb, cur, rfl, hC, hcs⟩ := hoC.blk (by simp)
      obtain ⟨k0, k1, k2, k3⟩ := hcs 0 (by simp)
      simp only [Nat.zero_mul, Nat.zero_add, List.getElem_cons_zero] at k0 k1 k2 k3
      clear HCO hcs hoC
      go_upto_region 2 with fail
      refine region_slots [some 7, some 8, some 9, some 10, some 11, some 12, some 13, some 14, some 15, some 16, some 17, some 18, some 19, some 20, some 6] [none, none, none, none, none, none, none, none, none, none, none, none, none, none, none] 37 15 rfl (by kernel_rfl) (by kernel_rfl) rfl rfl ?_
      apply step_fix
      · intro a W Zs hS hFm hz hd
        have h3 := hFm.old 3 rfl
        conv at h3 => rhs; whnf
        replace h3 := ev_get hFm.size h3
        refine .inl ⟨wanted_none rfl _, fun K hK => ?_⟩
        have HK := Lib.hid hK
        clear hd hFm hK
        go_simp
        exact HK.out _ _ rfl (Below.refl _ _)
      simp only [List.nil_append, List.cons_append]
      apply step_fix
      · intro a W Zs hS hFm hz hd
        have h7 := ev_get hFm.size (hd 0 7 rfl rfl)
        refine .inl ⟨wanted_none rfl _, fun K hK => ?_⟩
        have HK := Lib.hid hK
        clear hd hFm hK
        go_simp
        exact HK.out _ _ rfl (Below.refl _ _)
      simp only [List.nil_append, List.cons_append]
      apply step_fix
      · intro a W Zs hS hFm hz hd
        have h8 := ev_get hFm.size (hd 1 8 rfl rfl)
        refine .inl ⟨wanted_none rfl _, fun K hK => ?_⟩
        have HK := Lib.hid hK
        clear hd hFm hK
        go_simp
        exact HK.out _ _ rfl (Below.refl _ _)
      simp only [List.nil_append, List.cons_append]
      apply step_fix
      · intro a W Zs hS hFm hz hd
        have h9 := ev_get hFm.size (hd 2 9 rfl rfl)
        refine .inl ⟨wanted_none rfl _, fun K hK => ?_⟩
        have HK := Lib.hid hK
        clear hd hFm hK
        go_simp
        exact HK.out _ _ rfl (Below.refl _ _)
      simp only [List.nil_append, List.cons_append]
      apply step_fix
      · intro a W Zs hS hFm hz hd
        exact .inr ⟨wanted_not rfl rfl (hd 3 10 rfl rfl), rfl⟩
      simp only [List.nil_append, List.cons_append]
      apply step_fix
      · intro a W Zs hS hFm hz hd
        exact .inr ⟨wanted_not rfl rfl (hd 3 10 rfl rfl), rfl⟩
      simp only [List.nil_append, List.cons_append]
      apply step_fix
      · intro a W Zs hS hFm hz hd
        exact .inr ⟨wanted_not rfl rfl (hd 3 10 rfl rfl), rfl⟩
      simp only [List.nil_append, List.cons_append]
      apply step_fix
      · intro a W Zs hS hFm hz hd
        exact .inr ⟨wanted_not rfl rfl (hd 3 10 rfl rfl), rfl⟩
      simp only [List.nil_append, List.cons_append]
      apply step_fix
      · intro a W Zs hS hFm hz hd
        exact .inr ⟨wanted_not rfl rfl (hd 3 10 rfl rfl), rfl⟩
      simp only [List.nil_append, List.cons_append]
      apply step_fix
      · intro a W Zs hS hFm hz hd
        exact .inr ⟨wanted_not rfl rfl (hd 3 10 rfl rfl), rfl⟩
      simp only [List.nil_append, List.cons_append]
      apply step_fix
      · intro a W Zs hS hFm hz hd
        exact .inr ⟨wanted_not rfl rfl (hd 3 10 rfl rfl), rfl⟩
      simp only [List.nil_append, List.cons_append]
      apply step_fix
      · intro a W Zs hS hFm hz hd
        exact .inr ⟨wanted_not rfl rfl (hd 3 10 rfl rfl), rfl⟩
      simp only [List.nil_append, List.cons_append]
      apply step_fix
      · intro a W Zs hS hFm hz hd
        exact .inr ⟨wanted_not rfl rfl (hd 3 10 rfl rfl), rfl⟩
      simp only [List.nil_append, List.cons_append]
      apply step_fix
      · intro a W Zs hS hFm hz hd
        have h10 := ev_get hFm.size (hd 3 10 rfl rfl)
        have h19 := ev_get hFm.size (hd 12 19 rfl rfl)
        refine .inl ⟨wanted_none rfl _, fun K hK => ?_⟩
        have HK := Lib.hid hK
        clear hd hFm hK
        go_simp
        exact HK.out _ _ rfl (Below.refl _ _)
      simp only [List.nil_append, List.cons_append]
      apply step_fix
      · intro a W Zs hS hFm hz hd
        have h20 := ev_get hFm.size (hd 13 20 rfl rfl)
        refine .inl ⟨wanted_none rfl _, fun K hK => ?_⟩
        have HK := Lib.hid hK
        clear hd hFm hK
        go_simp
        exact HK.out _ _ rfl (Below.refl _ _)
      simp only [List.nil_append, List.cons_append]
      intro a w3 Zs hS hFm hz hd
      have e6 := hd 14 6 (by decide) rfl
      have e0 := hFm.old 0 rfl
      conv at e0 => rhs; whnf
      have e1 := hFm.old 1 rfl
      conv at e1 => rhs; whnf
      have e2 := hFm.old 2 rfl
      conv at e2 => rhs; whnf
      have e3 := hFm.old 3 rfl
      conv at e3 => rhs; whnf
      have e4 := hFm.old 4 rfl
      conv at e4 => rhs; whnf
      have e5 := hFm.old 5 rfl
      conv at e5 => rhs; whnf
      have e21 := hFm.old 21 rfl
      conv at e21 => rhs; whnf
      have e22 := hFm.old 22 rfl
      conv at e22 => rhs; whnf
      have e23 := hFm.old 23 rfl
      conv at e23 => rhs; whnf
      have e24 := hFm.old 24 rfl
      conv at e24 => rhs; whnf
      have e25 := hFm.old 25 rfl
      conv at e25 => rhs; whnf
      have e26 := hFm.old 26 rfl
      conv at e26 => rhs; whnf
      have e27 := hFm.old 27 rfl
      conv at e27 => rhs; whnf
      have e28 := hFm.old 28 rfl
      conv at e28 => rhs; whnf
      have e29 := hFm.old 29 rfl
      conv at e29 => rhs; whnf
      have e30 := hFm.old 30 rfl
      conv at e30 => rhs; whnf
      have e31 := hFm.old 31 rfl
      conv at e31 => rhs; whnf
      have e32 := hFm.old 32 rfl
      conv at e32 => rhs; whnf
      have e33 := hFm.old 33 rfl
      conv at e33 => rhs; whnf
      have e34 := hFm.old 34 rfl
      conv at e34 => rhs; whnf
      have e35 := hFm.old 35 rfl
      conv at e35 => rhs; whnf
      have e36 := hFm.old 36 rfl
      conv at e36 => rhs; whnf
      have hsz := hFm.size
      have hdf := hFm.defers
      clear hd hFm
      obtain ⟨t, df⟩ := a
      simp only at hsz hdf
      subst hdf
      obtain ⟨x, hx⟩ : ∃ x : Nat → Value, ∀ i, t.getD i undef = x i := ⟨fun i => t.getD i undef, fun _ => rfl⟩
      have h6 := (hx 6).symm.trans e6
      have h0 := (hx 0).symm.trans e0
      have h1 := (hx 1).symm.trans e1
      have h2 := (hx 2).symm.trans e2
      have h3 := (hx 3).symm.trans e3
      have h4 := (hx 4).symm.trans e4
      have h5 := (hx 5).symm.trans e5
      have h21 := (hx 21).symm.trans e21
      have h22 := (hx 22).symm.trans e22
      have h23 := (hx 23).symm.trans e23
      have h24 := (hx 24).symm.trans e24
      have h25 := (hx 25).symm.trans e25
      have h26 := (hx 26).symm.trans e26
      have h27 := (hx 27).symm.trans e27
      have h28 := (hx 28).symm.trans e28
      have h29 := (hx 29).symm.trans e29
      have h30 := (hx 30).symm.trans e30
      have h31 := (hx 31).symm.trans e31
      have h32 := (hx 32).symm.trans e32
      have h33 := (hx 33).symm.trans e33
      have h34 := (hx 34).symm.trans e34
      have h35 := (hx 35).symm.trans e35
      have h36 := (hx 36).symm.trans e36
      have ht' : t = #[x 0, x 1, x 2, x 3, x 4, x 5, x 6, x 7, x 8, x 9, x 10, x 11, x 12, x 13, x 14, x 15, x 16, x 17, x 18, x 19, x 20, x 21, x 22, x 23, x 24, x 25, x 26, x 27, x 28, x 29, x 30, x 31, x 32, x 33, x 34, x 35, x 36] := frame_lit t 37 hsz x hx
      clear hx hsz hz e6 e0 e1 e2 e3 e4 e5 e21 e22 e23 e24 e25 e26 e27 e28 e29 e30 e31 e32 e33 e34 e35 e36
      subst ht'
      (try dsimp only)
      rw [h6, h0, h1, h2, h3, h4, h5, h21, h22, h23, h24, h25, h26, h27, h28, h29, h30, h31, h32, h33, h34, h35, h36]
      clear h6 h0 h1 h2 h3 h4 h5 h21 h22 h23 h24 h25 h26 h27 h28 h29 h30 h31 h32 h33 h34 h35 h36
      rw [undef_fold]
      have hb := from_drew hS
      replace hB := hB.trans (hb.mono hB.size)
      replace hC := hC.later hb
      clear hS hb
      have hq := hC.at
      go_wp2_with fail
      refine (atextC_any p.x _).mono ?_
      rintro e w5 ⟨rfl, hb⟩
      go_wp2
      go_ret
      exact ⟨by rw [HC.out, HPT.out]; rfl, hB.trans (hb.mono hB.size)⟩
    · have hf0 : fs = [] := List.eq_nil_of_length_eq_zero (by have := hfl; simp only [List.length_cons] at this; omega)
      subst hf0
      have HC := Lib.hid (chosen_two ps p q _ hfs)
      have HPT := Lib.hid (HFT.out p (List.mem_cons_self ..))
      have HQT := Lib.hid (HFT.out q (by simp))
      clear hfs hfl
      cases de : (p.x.O == q.x.O)
      all_goals
        have dn : (p.x.O != q.x.O) = !(p.x.O == q.x.O) := rfl
        rw [de] at dn
        go_enter Tryd.func38, Tryd.ntmps38
        go_wp2_with fail
        refine (HCO.out _ hr).mono ?_
        rintro e w2 ⟨v, rfl, hoC, hB⟩
        obtain ⟨av, cv, rfl⟩ := hoC.form
        obtain ⟨gb, cur, rfl, hC, hcs⟩ := hoC.blk (by simp)
        obtain ⟨k0, k1, k2, k3⟩ := hcs 0 (by simp)
        obtain ⟨k4, k5, k6, k7⟩ := hcs 1 (by simp)
        simp only [Nat.zero_mul, Nat.zero_add, Nat.one_mul, List.getElem_cons_zero, List.getElem_cons_succ] at k0 k1 k2 k3 k4 k5 k6 k7
        clear HCO hcs hoC
        go_upto_region 2 with fail
        refine region_slots [some 7, some 8, some 9, some 10, some 11, some 12, some 13, some 14, some 15, some 16, some 17, some 18, some 19, some 20, some 6] [none, none, none, none, none, none, none, none, none, none, none, none, none, none, none] 37 15 rfl (by kernel_rfl) (by kernel_rfl) rfl rfl ?_
        apply step_fix
        · intro a W Zs hS hFm hz hd
          have h3 := hFm.old 3 rfl
          conv at h3 => rhs; whnf
          replace h3 := ev_get hFm.size h3
          refine .inl ⟨wanted_none rfl _, fun K hK => ?_⟩
          have HK := Lib.hid hK
          clear hd hFm hK
          go_simp
          exact HK.out _ _ rfl (Below.refl _ _)
        simp only [List.nil_append, List.cons_append]
        apply step_fix
        · intro a W Zs hS hFm hz hd
          have h7 := ev_get hFm.size (hd 0 7 rfl rfl)
          refine .inl ⟨wanted_none rfl _, fun K hK => ?_⟩
          have HK := Lib.hid hK
          clear hd hFm hK
          go_simp
          exact HK.out _ _ rfl (Below.refl _ _)
        simp only [List.nil_append, List.cons_append]
        apply step_fix
        · intro a W Zs hS hFm hz hd
          have h8 := ev_get hFm.size (hd 1 8 rfl rfl)
          refine .inl ⟨wanted_none rfl _, fun K hK => ?_⟩
          have HK := Lib.hid hK
          clear hd hFm hK
          go_simp
          exact HK.out _ _ rfl (Below.refl _ _)
        simp only [List.nil_append, List.cons_append]
        apply step_fix
        · intro a W Zs hS hFm hz hd
          have h9 := ev_get hFm.size (hd 2 9 rfl rfl)
          refine .inl ⟨wanted_none rfl _, fun K hK => ?_⟩
          have HK := Lib.hid hK
          clear hd hFm hK
          go_simp
          exact HK.out _ _ rfl (Below.refl _ _)
        simp only [List.nil_append, List.cons_append]
        apply step_fix
        · intro a W Zs hS hFm hz hd
          have h3 := hFm.old 3 rfl
          conv at h3 => rhs; whnf
          replace h3 := ev_get hFm.size h3
          refine .inl ⟨wanted_at rfl rfl (hd 3 10 rfl rfl), fun K hK => ?_⟩
          have HK := Lib.hid hK
          clear hd hFm hK
          go_simp
          exact HK.out _ _ rfl (Below.refl _ _)
        simp only [List.nil_append, List.cons_append]
        apply step_fix
        · intro a W Zs hS hFm hz hd
          have h11 := ev_get hFm.size (hd 4 11 rfl rfl)
          refine .inl ⟨wanted_at rfl rfl (hd 3 10 rfl rfl), fun K hK => ?_⟩
          have HK := Lib.hid hK
          clear hd hFm hK
          go_simp
          exact HK.out _ _ rfl (Below.refl _ _)
        simp only [List.nil_append, List.cons_append]
        apply step_fix
        · intro a W Zs hS hFm hz hd
          have h12 := ev_get hFm.size (hd 5 12 rfl rfl)
          have hq := (hC.drew1.later hS).at
          refine .inl ⟨wanted_at rfl rfl (hd 3 10 rfl rfl), fun K hK => ?_⟩
          have HK := Lib.hid hK
          clear hd hFm hK
          go_simp
          exact HK.out _ _ rfl (Below.refl _ _)
        simp only [List.nil_append, List.cons_append]
        apply step_fix
        · intro a W Zs hS hFm hz hd
          have h13 := ev_get hFm.size (hd 6 13 rfl rfl)
          refine .inl ⟨wanted_at rfl rfl (hd 3 10 rfl rfl), fun K hK => ?_⟩
          have HK := Lib.hid hK
          clear hd hFm hK
          go_simp
          refine (atextC_any p.x _).mono ?_
          rintro e W' ⟨rfl, hb⟩
          exact HK.out _ _ rfl hb
        simp only [List.nil_append, List.cons_append]
        apply step_fix
        · intro a W Zs hS hFm hz hd
          have h3 := hFm.old 3 rfl
          conv at h3 => rhs; whnf
          replace h3 := ev_get hFm.size h3
          refine .inl ⟨wanted_at rfl rfl (hd 3 10 rfl rfl), fun K hK => ?_⟩
          have HK := Lib.hid hK
          clear hd hFm hK
          go_simp
          exact HK.out _ _ rfl (Below.refl _ _)
        simp only [List.nil_append, List.cons_append]
        apply step_fix
        · intro a W Zs hS hFm hz hd
          have h15 := ev_get hFm.size (hd 8 15 rfl rfl)
          refine .inl ⟨wanted_at rfl rfl (hd 3 10 rfl rfl), fun K hK => ?_⟩
          have HK := Lib.hid hK
          clear hd hFm hK
          go_simp
          exact HK.out _ _ rfl (Below.refl _ _)
        simp only [List.nil_append, List.cons_append]
        apply step_fix
        · intro a W Zs hS hFm hz hd
          have h16 := ev_get hFm.size (hd 9 16 rfl rfl)
          have hq := (hC.drew1.later hS).at
          refine .inl ⟨wanted_at rfl rfl (hd 3 10 rfl rfl), fun K hK => ?_⟩
          have HK := Lib.hid hK
          clear hd hFm hK
          go_simp
          exact HK.out _ _ rfl (Below.refl _ _)
        simp only [List.nil_append, List.cons_append]
        apply step_fix
        · intro a W Zs hS hFm hz hd
          have h17 := ev_get hFm.size (hd 10 17 rfl rfl)
          refine .inl ⟨wanted_at rfl rfl (hd 3 10 rfl rfl), fun K hK => ?_⟩
          have HK := Lib.hid hK
          clear hd hFm hK
          go_simp
          refine (atextC_any q.x _).mono ?_
          rintro e W' ⟨rfl, hb⟩
          exact HK.out _ _ rfl hb
        simp only [List.nil_append, List.cons_append]
        apply step_fix
        · intro a W Zs hS hFm hz hd
          have h14 := ev_get hFm.size (hd 7 14 rfl rfl)
          have h18 := ev_get hFm.size (hd 11 18 rfl rfl)
          refine .inl ⟨wanted_at rfl rfl (hd 3 10 rfl rfl), fun K hK => ?_⟩
          have HK := Lib.hid hK
          clear hd hFm hK
          go_simp
          exact HK.out _ _ rfl (Below.refl _ _)
        simp only [List.nil_append, List.cons_append]
        apply step_fix
        · intro a W Zs hS hFm hz hd
          have h10 := ev_get hFm.size (hd 3 10 rfl rfl)
          have h19 := ev_get hFm.size (hd 12 19 rfl rfl)
          refine .inl ⟨wanted_none rfl _, fun K hK => ?_⟩
          have HK := Lib.hid hK
          clear hd hFm hK
          go_simp
          exact HK.out _ _ rfl (Below.refl _ _)
        simp only [List.nil_append, List.cons_append]
        apply step_fix
        · intro a W Zs hS hFm hz hd
          have h20 := ev_get hFm.size (hd 13 20 rfl rfl)
          refine .inl ⟨wanted_none rfl _, fun K hK => ?_⟩
          have HK := Lib.hid hK
          clear hd hFm hK
          go_simp
          exact HK.out _ _ rfl (Below.refl _ _)
        simp only [List.nil_append, List.cons_append]
        intro a w3 Zs hS hFm hz hd
        have e6 := hd 14 6 (by decide) rfl
        have e0 := hFm.old 0 rfl
        conv at e0 => rhs; whnf
        have e1 := hFm.old 1 rfl
        conv at e1 => rhs; whnf
        have e2 := hFm.old 2 rfl
        conv at e2 => rhs; whnf
        have e3 := hFm.old 3 rfl
        conv at e3 => rhs; whnf
        have e4 := hFm.old 4 rfl
        conv at e4 => rhs; whnf
        have e5 := hFm.old 5 rfl
        conv at e5 => rhs; whnf
        have e21 := hFm.old 21 rfl
        conv at e21 => rhs; whnf
        have e22 := hFm.old 22 rfl
        conv at e22 => rhs; whnf
        have e23 := hFm.old 23 rfl
        conv at e23 => rhs; whnf
        have e24 := hFm.old 24 rfl
        conv at e24 => rhs; whnf
        have e25 := hFm.old 25 rfl
        conv at e25 => rhs; whnf
        have e26 := hFm.old 26 rfl
        conv at e26 => rhs; whnf
        have e27 := hFm.old 27 rfl
        conv at e27 => rhs; whnf
        have e28 := hFm.old 28 rfl
        conv at e28 => rhs; whnf
        have e29 := hFm.old 29 rfl
        conv at e29 => rhs; whnf
        have e30 := hFm.old 30 rfl
        conv at e30 => rhs; whnf
        have e31 := hFm.old 31 rfl
        conv at e31 => rhs; whnf
        have e32 := hFm.old 32 rfl
        conv at e32 => rhs; whnf
        have e33 := hFm.old 33 rfl
        conv at e33 => rhs; whnf
        have e34 := hFm.old 34 rfl
        conv at e34 => rhs; whnf
        have e35 := hFm.old 35 rfl
        conv at e35 => rhs; whnf
        have e36 := hFm.old 36 rfl
        conv at e36 => rhs; whnf
        have hsz := hFm.size
        have hdf := hFm.defers
        clear hd hFm
        obtain ⟨t, df⟩ := a
        simp only at hsz hdf
        subst hdf
        obtain ⟨x, hx⟩ : ∃ x : Nat → Value, ∀ i, t.getD i undef = x i := ⟨fun i => t.getD i undef, fun _ => rfl⟩
        have h6 := (hx 6).symm.trans e6
        have h0 := (hx 0).symm.trans e0
        have h1 := (hx 1).symm.trans e1
        have h2 := (hx 2).symm.trans e2
        have h3 := (hx 3).symm.trans e3
        have h4 := (hx 4).symm.trans e4
        have h5 := (hx 5).symm.trans e5
        have h21 := (hx 21).symm.trans e21
        have h22 := (hx 22).symm.trans e22
        have h23 := (hx 23).symm.trans e23
        have h24 := (hx 24).symm.trans e24
        have h25 := (hx 25).symm.trans e25
        have h26 := (hx 26).symm.trans e26
        have h27 := (hx 27).symm.trans e27
        have h28 := (hx 28).symm.trans e28
        have h29 := (hx 29).symm.trans e29
        have h30 := (hx 30).symm.trans e30
        have h31 := (hx 31).symm.trans e31
        have h32 := (hx 32).symm.trans e32
        have h33 := (hx 33).symm.trans e33
        have h34 := (hx 34).symm.trans e34
        have h35 := (hx 35).symm.trans e35
        have h36 := (hx 36).symm.trans e36
        have ht' : t = #[x 0, x 1, x 2, x 3, x 4, x 5, x 6, x 7, x 8, x 9, x 10, x 11, x 12, x 13, x 14, x 15, x 16, x 17, x 18, x 19, x 20, x 21, x 22, x 23, x 24, x 25, x 26, x 27, x 28, x 29, x 30, x 31, x 32, x 33, x 34, x 35, x 36] := frame_lit t 37 hsz x hx
        clear hx hsz hz e6 e0 e1 e2 e3 e4 e5 e21 e22 e23 e24 e25 e26 e27 e28 e29 e30 e31 e32 e33 e34 e35 e36
        subst ht'
        (try dsimp only)
        rw [h6, h0, h1, h2, h3, h4, h5, h21, h22, h23, h24, h25, h26, h27, h28, h29, h30, h31, h32, h33, h34, h35, h36]
        clear h6 h0 h1 h2 h3 h4 h5 h21 h22 h23 h24 h25 h26 h27 h28 h29 h30 h31 h32 h33 h34 h35 h36
        rw [undef_fold]
        have hb := from_drew hS
        replace hB := hB.trans (hb.mono hB.size)
        replace hC := hC.later hb
        clear hS hb
        have hq := hC.at
      · have hne : p.x.O ≠ q.x.O := by intro e; rw [e] at de; simp at de
        have HCC := Lib.hid (show chosenL ps = [] by rw [HC.out, HPT.out, HQT.out, if_neg hne])
        clear hne
        go_wp2
        go_ret
        exact ⟨by rw [HCC.out]; rfl, hB⟩
      · have HCC := Lib.hid (show chosenL ps = p.x.O by rw [HC.out, HPT.out, HQT.out, if_pos (by simpa using de)])
        go_wp2_with fail
        refine (atextC_any p.x _).mono ?_
        rintro e w5 ⟨rfl, hb⟩
        go_wp2
        go_ret
        exact ⟨by rw [HCC.out]; rfl, hB.trans (hb.mono hB.size)⟩

end Go.Proofs.YtkflijbhlibadabDoor
