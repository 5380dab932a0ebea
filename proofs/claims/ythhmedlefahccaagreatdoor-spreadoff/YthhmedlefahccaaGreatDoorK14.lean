/-
  Plain mathematics of a slot, all round, on: contained; reached; cut; compared.
-/
import Derived.Test.YthhmedlefahccaaGreatDoorK13
import Derived.Test.YthhmedlefahccaaGreatDoorK10
namespace Plait

theorem rightB_no {f : Fa} {r i : Int} (h : rightB f r i = false) : f.K = 1 ∧ f.At = i ∧ r < f.To := by
  unfold rightB atB at h
  simp at h
  omega
theorem rightB_yes {f : Fa} {r i : Int} (h : rightB f r i = true) : f.To ≤ r ∨ f.K ≠ 1 ∨ f.At ≠ i := by
  unfold rightB atB at h
  simp at h
  omega
theorem rightB_of {f : Fa} {r i : Int} (h : f.To ≤ r ∨ f.K ≠ 1 ∨ f.At ≠ i) : rightB f r i = true := by
  unfold rightB atB
  simp
  omega

/-- Is it hit, or not? -/
theorem Sp.hit_or (x : Sp) (a b : Int) : (hitsB x.c x.f (x.nd a) (x.nd b) = false ∨ x.f.To ≤ x.r) ∨ (hitsB x.c x.f (x.nd a) (x.nd b) = true ∧ x.r < x.f.To) := by
  cases h : hitsB x.c x.f (x.nd a) (x.nd b)
  · exact .inl (.inl rfl)
  · rcases Int.lt_or_le x.r x.f.To with q | q
    · exact .inr ⟨rfl, q⟩
    · exact .inl (.inr q)

theorem hits_kind {c : Cf} {f : Fa} {a b : Int} (h : hitsB c f a b = true) : (f.K = 1 ∧ f.At = a) ∨ f.K = 2 := by
  unfold hitsB at h
  split at h
  · rename_i hk
    exact .inl ⟨hk, by simpa using h⟩
  · split at h
    · rename_i hk
      exact .inr hk
    · cases h

/-- What a right node sends by is not hit, but where the link is the locus. -/
theorem hits_right {c : Cf} {f : Fa} {r a b : Int} (hr : rightB f r a = true) (hk : f.K ≠ 2) : hitsB c f a b = false ∨ f.To ≤ r := by
  cases h : hitsB c f a b
  · exact .inl rfl
  · rcases hits_kind h with ⟨h1, h2⟩ | h2
    · rcases rightB_yes hr with q | q | q
      · exact .inr q
      · exact absurd h1 q
      · exact absurd h2 q
    · exact absurd h2 hk

theorem Sp.o_front_off (x : Sp) (k : Nat) (s : List UInt8) (h : frontB (outL true (x.sd (k + 1)).D (x.sd (k + 1)).S) s = true) : frontB (x.o (k + 2)) s = true := by
  rw [show k + 2 = (k + 1) + 1 from rfl, Sp.o_succ, Sp.O_succ]
  split
  · exact front_nil s
  · exact h

/-- P902: of a right owner's own slot. -/
theorem Sp.contained {x : Sp} (h : x.Ok) (hp : x.pair = false) (hown : rightB x.f x.r (x.nd 0) = true) :
    ∀ k : Nat, (k : Int) < x.c.N → rightB x.f x.r (x.nd k) = true → ¬ (x.f.K = 2 ∧ x.f.At = (linkI x.c.N (x.nd 0) (x.nd 1)).1 ∧ k = 1) → frontB (x.o k) x.snd = true := by
  intro k
  induction k using Nat.strongRecOn with
  | ind k ih =>
    intro hk hr hb
    match k with
    | 0 => exact front_refl _
    | 1 =>
      have hem : x.em 0 1 x.snd = x.snd := by
        refine Sp.em_same x 0 1 _ h.snd ?_
        rcases x.hit_or 0 1 with q | ⟨q, q2⟩
        · exact q
        · exfalso
          rcases hits_kind q with ⟨h1, h2⟩ | h2
          · rcases rightB_yes hown with w | w | w <;> omega
          · apply hb
            refine ⟨h2, ?_, rfl⟩
            have := Sp.hit1 h h2 0
            rw [show (0 : Int) + 1 = 1 from rfl, q] at this
            have l := Sp.link1 h 0
            rw [show (0 : Int) + 1 = 1 from rfl] at l
            have t : (if x.d = 1 then x.nd 0 else x.nd 1) = x.f.At := by simpa using this.symm
            rw [l]
            exact t.symm
      rw [Sp.o_succ, Sp.O_zero, hp, Sp.D_zero, hem]
      split
      · exact front_nil _
      · exact front_trans (front_clean _) (guard_front _ _ _ _ _ (front_refl _))
    | k + 2 =>
      apply Sp.o_front_off
      rw [Sp.D_succ, Sp.S_succ]
      have hcl := x.o_clean h.snd
      have k1 : ((k + 1 : Nat) : Int) = (k : Int) + 1 := Int.natCast_succ k
      have k2 : ((k + 2 : Nat) : Int) = (k : Int) + 1 + 1 := by omega
      rcases x.hit_or ((k : Int) + 1) ((k : Int) + 1 + 1) with q | ⟨q, q2⟩
      · rw [Sp.em_same x _ _ _ (hcl (k + 1)) q]
        by_cases hr1 : rightB x.f x.r (x.nd ((k : Int) + 1)) = true
        · by_cases hb1 : x.f.K = 2 ∧ x.f.At = (linkI x.c.N (x.nd 0) (x.nd 1)).1 ∧ k + 1 = 1
          · obtain ⟨b1, b2, b3⟩ := hb1
            have hk0 : k = 0 := by omega
            subst hk0
            apply out_pre2
            have l := Sp.link1 h 0
            have h1 := Sp.hit1 h b1 0
            rw [show (0 : Int) + 1 = 1 from rfl] at l h1
            have : hitsB x.c x.f (x.nd 0) (x.nd (0 + 1)) = true := by
              rw [show (0 : Int) + 1 = 1 from rfl, h1, b2, l]
              simp
            have h2 := Sp.not_both h b1 0 0 this
            rw [Sp.em_same x ((0 : Nat) : Int) (((0 : Nat) : Int) + 1 + 1) _ (hcl 0) (.inl h2)]
            exact front_refl _
          · apply out_pre
            exact ih (k + 1) (by omega) (by omega) (by rw [k1]; exact hr1) hb1
        · rw [Bool.not_eq_true] at hr1
          obtain ⟨a1, a2, a3⟩ := rightB_no hr1
          exfalso
          rw [hits_node _ _ _ _ a1, a2] at q
          simp at q
          omega
      · rcases hits_kind q with ⟨a1, a2⟩ | a2
        · have hne : x.nd k ≠ x.nd ((k : Int) + 1) := Sp.nd_ne h _ _ (by omega) (by have := h.c.n6; omega)
          apply out_pre2
          rw [Sp.em_same x _ _ _ (hcl k) (.inl (by rw [hits_node _ _ _ _ a1, beq_eq_false_iff_ne]; omega))]
          exact ih k (by omega) (by omega) (rightB_of (.inr (.inr (by omega)))) (by omega)
        · have h2 := Sp.not_both h a2 ((k : Int) + 1) k q
          apply out_pre2
          rw [Sp.em_same x _ _ _ (hcl k) (.inl h2)]
          refine ih k (by omega) (by omega) (rightB_of (.inr (.inl (by omega)))) ?_
          rintro ⟨b1, b2, b3⟩
          have l := Sp.link1 h 0
          have h1 := Sp.hit1 h a2 0
          rw [show (0 : Int) + 1 = 1 from rfl] at l h1
          have hh : hitsB x.c x.f (x.nd 0) (x.nd (0 + 1)) = true := by
            rw [show (0 : Int) + 1 = 1 from rfl, h1, b2, l]
            simp
          have := Sp.not_two h a2 0 ((k : Int) + 1) (by omega) (by omega) hh
          rw [this] at q
          cases q

/-- Where nobody sends nothing goes out, whatever one node does that is no owner. -/
theorem Sp.silent {x : Sp} (h : x.Ok) (hk : x.f.K = 1) (hs : x.snd = []) (h0 : x.f.At ≠ x.nd 0) :
    ∀ k : Nat, (k : Int) < x.c.N → x.nd k ≠ x.f.At → x.o k = [] := by
  intro k
  induction k using Nat.strongRecOn with
  | ind k ih =>
    intro hlt hne
    have hcl := x.o_clean h.snd
    match k with
    | 0 => exact hs
    | 1 =>
      have hem : x.em 0 1 x.snd = x.snd := Sp.em_same x 0 1 _ h.snd (.inl (by rw [hits_node _ _ _ _ hk, beq_eq_false_iff_ne]; omega))
      rw [Sp.o_succ, Sp.O_zero, Sp.D_zero, hem, hs]
      split
      · rfl
      · have : guardL x.c (x.st (x.nd 1)) (x.dv (x.nd 1)) [] = [] := by unfold guardL; split <;> rfl
        rw [this]
        cases x.pair
        · rfl
        · rw [outL_true]; exact common_nil_left _
    | k + 2 =>
      rw [show k + 2 = (k + 1) + 1 from rfl, Sp.o_succ, Sp.O_succ]
      split
      · rfl
      · rw [Sp.D_succ, Sp.S_succ]
        by_cases hz : x.f.At = x.nd ((k : Int) + 1)
        · have hne2 : x.nd k ≠ x.nd ((k : Int) + 1) := Sp.nd_ne h _ _ (by omega) (by have := h.c.n6; omega)
          rw [Sp.em_same x _ _ _ (hcl k) (.inl (by rw [hits_node _ _ _ _ hk, beq_eq_false_iff_ne]; omega)), ih k (by omega) (by omega) (by omega), outL_true, clean_nil]
          exact common_nil_right _
        · have k1 : ((k + 1 : Nat) : Int) = (k : Int) + 1 := Int.natCast_succ k
          rw [Sp.em_same x _ _ _ (hcl (k + 1)) (.inl (by rw [hits_node _ _ _ _ hk, beq_eq_false_iff_ne]; omega)), ih (k + 1) (by omega) (by omega) (by rw [k1]; omega), outL_true, clean_nil]
          exact common_nil_left _

/-- An owner that is the locus: all two or more away pass on the same. -/
theorem Sp.owner {x : Sp} (h : x.Ok) (hp : x.pair = false) (hk : x.f.K = 1) (ha : x.f.At = x.nd 0) (hon : ∀ k : Int, x.st (x.nd k) ≠ 0) :
    x.o 1 = (x.sd 0).D ∧ ∀ k : Nat, 2 ≤ k → (k : Int) < x.c.N → x.o k = common (x.sd 0).D (x.sd 1).S := by
  have hcl := x.o_clean h.snd
  have hD : clean (x.sd 0).D = (x.sd 0).D := by
    rw [Sp.D_zero]
    unfold guardL
    split
    · exact Sp.em_clean x 0 1 _
    · rfl
  have o1 : x.o 1 = (x.sd 0).D := by
    rw [Sp.o_succ, Sp.O_zero, if_neg (hon 1), hp, outL_false, hD]
  have n6 := h.c.n6
  have hS : clean (x.sd 1).S = (x.sd 1).S := by
    rw [show (1 : Nat) = 0 + 1 from rfl, Sp.S_succ]
    exact Sp.em_clean x _ _ _
  have o2 : x.o 2 = common (x.sd 0).D (x.sd 1).S := by
    have e : (x.sd 1).D = x.o 1 := by
      rw [show (1 : Nat) = 0 + 1 from rfl, Sp.D_succ]
      have := Sp.nd_ne h 0 1 (by omega) (by omega)
      exact Sp.em_same x _ _ _ (hcl 1) (.inl (by rw [hits_node _ _ _ _ hk, beq_eq_false_iff_ne, ha]; simpa using this))
    have e2 := Sp.O_succ x 0
    rw [if_neg (hon _)] at e2
    rw [show (2 : Nat) = 1 + 1 from rfl, Sp.o_succ]
    rw [show (1 : Nat) = 0 + 1 from rfl, e2, show 0 + 1 = 1 from rfl, e, o1, outL_true, hD, hS]
  refine ⟨o1, fun k => ?_⟩
  induction k using Nat.strongRecOn with
  | ind k ih =>
    intro hk2 hlt
    match k with
    | 0 => omega
    | 1 => omega
    | 2 => exact o2
    | k + 3 =>
      have hz1 : x.f.At ≠ x.nd (((k + 1 : Nat) : Int) + 1) := by rw [ha]; exact Sp.nd_ne h _ _ (by omega) (by omega)
      have hz2 : x.f.At ≠ x.nd ((k + 1 : Nat) : Int) := by rw [ha]; exact Sp.nd_ne h _ _ (by omega) (by omega)
      have e2 := Sp.O_succ x (k + 1)
      rw [if_neg (hon _)] at e2
      rw [show k + 3 = (k + 2) + 1 from rfl, Sp.o_succ, show k + 2 = (k + 1) + 1 from rfl, e2, Sp.D_succ, Sp.S_succ,
        Sp.em_same x _ _ _ (hcl (k + 1 + 1)) (.inl (by rw [hits_node _ _ _ _ hk, beq_eq_false_iff_ne]; exact hz1)),
        Sp.em_same x _ _ _ (hcl (k + 1)) (.inl (by rw [hits_node _ _ _ _ hk, beq_eq_false_iff_ne]; exact hz2)),
        ih (k + 1 + 1) (by omega) (by omega) (by omega)]
      have hcc : clean (common (x.sd 0).D (x.sd 1).S) = common (x.sd 0).D (x.sd 1).S := by
        have := clean_out true (x.sd 0).D (x.sd 1).S
        rwa [outL_true, hD, hS] at this
      match k with
      | 0 =>
        rw [show (0 : Nat) + 1 = 1 from rfl, o1, outL_true, hcc, hD, common_symm, ← common_assoc, common_self]
      | k + 1 =>
        rw [ih (k + 1 + 1) (by omega) (by omega) (by omega), outL_true, hcc, common_self]

end Plait
/-
  Plain mathematics of a slot, all round, on: pairs; dead nodes and links; nodes that are off; guardians; one direction and the other one.
-/
namespace Plait

theorem whole_is (l : List UInt8) (h : wholeB l = true) : clean l = l := by
  unfold wholeB at h
  rw [Bool.and_eq_true, beq_iff_eq, beq_iff_eq] at h
  unfold clean
  rw [h.2, List.take_length]

theorem whole_front {l s : List UInt8} (h : wholeB l = true) (hf : frontB l s = true) (hs : clean s = s) : l = s := by
  unfold frontB at hf
  rw [List.isPrefixOf_iff_prefix] at hf
  obtain ⟨t, rfl⟩ := hf
  have e := whole_is l h
  have w : wholeB (clean l) = true := by rw [e]; exact h
  have := clean_whole_append l t w
  rw [e, hs] at this
  exact this.symm

/-- T3: of a pair slot. -/
theorem Sp.pairs {x : Sp} (h : x.Ok) (hp : x.pair = true) (hb : x.snd = x.oth ∨ (x.f.K ≠ 2 ∧ (x.f.K = 1 → x.f.At ≠ x.nd 1))) :
    ∀ k : Nat, 1 ≤ k → (k : Int) < x.c.N → rightB x.f x.r (x.nd k) = true → (rightB x.f x.r (x.nd 0) = true → frontB (x.o k) x.snd = true) ∧ (rightB x.f x.r (x.nd (-1)) = true → frontB (x.o k) x.oth = true) := by
  intro k
  have n6 := h.c.n6
  have hcl := x.o_clean h.snd
  induction k using Nat.strongRecOn with
  | ind k ih =>
    intro k1 hlt hr
    match k with
    | 0 => omega
    | 1 =>
      rw [Sp.o_succ, Sp.O_zero, hp]
      split
      · exact ⟨fun _ => front_nil _, fun _ => front_nil _⟩
      · rw [Sp.D_zero, Sp.S_zero, if_pos hp]
        constructor
        · intro hr0
          rcases x.hit_or 0 1 with q | ⟨q, q2⟩
          · apply out_pre
            rw [Sp.em_same x 0 1 _ h.snd q]
            exact guard_front _ _ _ _ _ (front_refl _)
          · rcases hits_kind q with ⟨a1, a2⟩ | a2
            · rcases rightB_yes hr0 with w | w | w <;> omega
            · have hs : x.snd = x.oth := by rcases hb with e | ⟨e, _⟩; exact e; omega
              have := Sp.not_both h a2 0 (-1) q
              apply out_pre2
              rw [Sp.em_same x (-1) 1 _ h.oth (.inl this), hs]
              exact front_refl _
        · intro hr1
          rcases x.hit_or (-1) 1 with q | ⟨q, q2⟩
          · apply out_pre2
            rw [Sp.em_same x (-1) 1 _ h.oth q]
            exact front_refl _
          · rcases hits_kind q with ⟨a1, a2⟩ | a2
            · rcases rightB_yes hr1 with w | w | w <;> omega
            · have hs : x.snd = x.oth := by rcases hb with e | ⟨e, _⟩; exact e; omega
              apply out_pre
              have hno : hitsB x.c x.f (x.nd 0) (x.nd 1) = false := by
                cases hh : hitsB x.c x.f (x.nd 0) (x.nd 1)
                · rfl
                · have := Sp.not_both h a2 0 (-1) hh
                  rw [show (-1 : Int) + 1 + 1 = 1 from rfl, q] at this
                  cases this
              rw [Sp.em_same x 0 1 _ h.snd (.inl hno), hs]
              exact guard_front _ _ _ _ _ (front_refl _)
    | k + 2 =>
      have kk : ((k + 1 : Nat) : Int) = (k : Int) + 1 := Int.natCast_succ k
      rcases x.hit_or ((k : Int) + 1) ((k : Int) + 1 + 1) with q | ⟨q, q2⟩
      · have hr1 : rightB x.f x.r (x.nd ((k : Int) + 1)) = true := by
          cases hh : rightB x.f x.r (x.nd ((k : Int) + 1))
          · obtain ⟨a1, a2, a3⟩ := rightB_no hh
            exfalso
            rw [hits_node _ _ _ _ a1, a2] at q
            simp at q
            omega
          · rfl
        have := ih (k + 1) (by omega) (by omega) (by omega) (by rw [kk]; exact hr1)
        have e : (x.sd (k + 1)).D = x.o (k + 1) := by rw [Sp.D_succ]; exact Sp.em_same x _ _ _ (hcl (k + 1)) q
        exact ⟨fun w => Sp.o_front_off x k _ (out_pre _ _ _ (by rw [e]; exact this.1 w)), fun w => Sp.o_front_off x k _ (out_pre _ _ _ (by rw [e]; exact this.2 w))⟩
      · have hS : (x.sd (k + 1)).S = x.o k ∧ rightB x.f x.r (x.nd k) = true ∧ (k = 0 → x.snd = x.oth) := by
          rcases hits_kind q with ⟨a1, a2⟩ | a2
          · have hne : x.nd k ≠ x.nd ((k : Int) + 1) := Sp.nd_ne h _ _ (by omega) (by omega)
            refine ⟨by rw [Sp.S_succ]; exact Sp.em_same x _ _ _ (hcl k) (.inl (by rw [hits_node _ _ _ _ a1, beq_eq_false_iff_ne]; omega)), rightB_of (.inr (.inr (by omega))), fun hk0 => ?_⟩
            subst hk0
            rcases hb with e | ⟨_, e⟩
            · exact e
            · exact absurd a2 (e a1)
          · have h2 := Sp.not_both h a2 ((k : Int) + 1) k q
            refine ⟨by rw [Sp.S_succ]; exact Sp.em_same x _ _ _ (hcl k) (.inl h2), rightB_of (.inr (.inl (by omega))), fun _ => ?_⟩
            rcases hb with e | ⟨e, _⟩
            · exact e
            · exact absurd a2 e
        obtain ⟨e, hrk, h0⟩ := hS
        by_cases hk0 : k = 0
        · subst hk0
          have hs := h0 rfl
          exact ⟨fun _ => Sp.o_front_off x 0 _ (out_pre2 _ _ _ (by rw [e, Sp.o_zero]; exact front_refl _)), fun _ => Sp.o_front_off x 0 _ (out_pre2 _ _ _ (by rw [e, Sp.o_zero, hs]; exact front_refl _))⟩
        · have := ih k (by omega) (by omega) (by omega) hrk
          exact ⟨fun w => Sp.o_front_off x k _ (out_pre2 _ _ _ (by rw [e]; exact this.1 w)), fun w => Sp.o_front_off x k _ (out_pre2 _ _ _ (by rw [e]; exact this.2 w))⟩

/-- What a locus that does nothing lets by. -/
theorem Sp.em_dead (x : Sp) (hA : x.f.A = []) (hr : x.r < x.f.To) (a b : Int) (l : List UInt8) (h : hitsB x.c x.f (x.nd a) (x.nd b) = true) : x.em a b l = [] := by
  have hn : ¬ (hitsB x.c x.f (x.nd a) (x.nd b) = false ∨ x.f.To ≤ x.r) := by
    rintro (q | q)
    · rw [h] at q; cases q
    · omega
  unfold Sp.em emitL
  rw [if_neg hn, if_pos (.inr hA)]
  rfl

theorem Sp.em_nil (x : Sp) (hA : x.f.A = []) (a b : Int) : x.em a b [] = [] := by
  unfold Sp.em emitL
  split
  · rfl
  · rw [if_pos (.inr hA)]; rfl

/-- Where nothing comes by the near link nothing goes on. -/
theorem Sp.o_nil (x : Sp) (hp : x.pair = false) (k : Nat) (h : (x.sd k).D = []) : x.o (k + 1) = [] := by
  rw [Sp.o_succ]
  cases k with
  | zero =>
    rw [Sp.O_zero, h, hp]
    split <;> rfl
  | succ k =>
    rw [Sp.O_succ, h]
    split
    · rfl
    · rw [outL_true, clean_nil]; exact common_nil_left _

/-- Behind one that passes nothing on there is nothing. -/
theorem Sp.nil_on {x : Sp} (hp : x.pair = false) (hA : x.f.A = []) (m : Nat) (hm : x.o (m + 1) = []) : ∀ k : Nat, m + 1 ≤ k → x.o k = [] := by
  intro k hk
  induction k with
  | zero => omega
  | succ k ih =>
    by_cases e : k = m
    · subst e; exact hm
    · apply Sp.o_nil x hp
      match k with
      | 0 => omega
      | k + 1 => rw [Sp.D_succ, ih (by omega)]; exact Sp.em_nil x hA _ _

/-- The place of a node. -/
theorem Sp.nd_of {x : Sp} (h : x.Ok) (z : Int) (hz : 0 ≤ z ∧ z < x.c.N) : ∃ p : Nat, (p : Int) < x.c.N ∧ x.nd p = z := by
  have n6 := h.c.n6
  have b1 := Int.emod_nonneg (x.d * (z - x.p0)) (show x.c.N ≠ 0 by omega)
  have b2 := Int.emod_lt_of_pos (x.d * (z - x.p0)) (show 0 < x.c.N by omega)
  refine ⟨((x.d * (z - x.p0)) % x.c.N).toNat, by omega, ?_⟩
  rw [Int.toNat_of_nonneg b1]
  unfold Sp.nd
  have hdd : x.d * (x.d * (z - x.p0)) = z - x.p0 := by rcases h.d with e | e <;> rw [e] <;> omega
  have : (x.p0 + x.d * ((x.d * (z - x.p0)) % x.c.N)) % x.c.N = (x.p0 + x.d * (x.d * (z - x.p0))) % x.c.N := by
    rw [Int.add_emod, Int.mul_emod, Int.emod_emod, ← Int.mul_emod, ← Int.add_emod]
  rw [this, hdd, show x.p0 + (z - x.p0) = z by omega]
  exact Int.emod_eq_of_lt hz.1 hz.2

theorem Sp.place_uniq {x : Sp} (h : x.Ok) (a b : Nat) (ha : (a : Int) < x.c.N) (hb : (b : Int) < x.c.N) (e : x.nd a = x.nd b) : a = b := by
  rcases Nat.lt_trichotomy a b with q | q | q
  · exact absurd e (Sp.nd_ne h a b (by omega) (by omega))
  · exact q
  · exact absurd e.symm (Sp.nd_ne h b a (by omega) (by omega))

/-- All are on, and the first one lets in. -/
structure Sp.On (x : Sp) : Prop where
  on : ∀ k : Int, x.st (x.nd k) ≠ 0
  adm : admitB x.c (x.st (x.nd 1)) (x.dv (x.nd 1)) = true

/-- A silent node. -/
theorem Sp.cut {x : Sp} (h : x.Ok) (hp : x.pair = false) (ho : x.On) (hK : x.f.K = 1) (hA : x.f.A = []) (hr : x.r < x.f.To) (p : Nat) (hpn : (p : Int) < x.c.N) (hz : x.nd p = x.f.At) :
    ∀ k : Nat, (k : Int) < x.c.N → x.o k = if p < k then [] else x.snd := by
  intro k hk
  have hcalm : ∀ k : Nat, k ≤ p → x.o k = x.snd := by
    refine Sp.calm x p hp h.snd (fun k _ => ho.on _) (fun _ => ho.adm) (fun j hj => .inl ?_) (fun j hj => .inl ?_)
    · rw [hits_node _ _ _ _ hK, beq_eq_false_iff_ne, ← hz]
      exact (Sp.nd_ne h j p (by omega) (by omega)).symm
    · rw [hits_node _ _ _ _ hK, beq_eq_false_iff_ne, ← hz]
      exact (Sp.nd_ne h j p (by omega) (by omega)).symm
  by_cases hpk : p < k
  · rw [if_pos hpk]
    have hit : hitsB x.c x.f (x.nd p) (x.nd (p + 1)) = true := by rw [hits_node _ _ _ _ hK, hz]; simp
    have hD : (x.sd p).D = [] := by
      match p with
      | 0 =>
        have := Sp.em_dead x hA hr 0 1 x.snd hit
        rw [Sp.D_zero, this]
        unfold guardL
        split <;> rfl
      | p + 1 =>
        rw [Sp.D_succ]
        rw [Int.natCast_succ] at hit
        exact Sp.em_dead x hA hr _ _ _ hit
    exact Sp.nil_on hp hA p (Sp.o_nil x hp p hD) k (by omega)
  · rw [if_neg hpk]
    exact hcalm k (by omega)

/-- Nodes that are off. -/
theorem Sp.off {x : Sp} (h : x.Ok) (hp : x.pair = false) (hK : x.f.K ≠ 1) (hK2 : x.f.K ≠ 2) (hA : x.f.A = []) (hg : admitB x.c (x.st (x.nd 1)) (x.dv (x.nd 1)) = true ∨ x.st (x.nd 1) = 0) :
    (∀ k : Nat, (∀ j : Nat, j < k → x.st (x.nd (j + 1)) ≠ 0) → x.o k = x.snd) ∧ ∀ k m : Nat, m < k → x.st (x.nd (m + 1)) = 0 → x.o k = [] := by
  constructor
  · intro k hk
    refine Sp.calm x k hp h.snd hk (fun h0 => ?_) (fun j _ => .inl (hits_none _ _ _ _ hK hK2)) (fun j _ => .inl (hits_none _ _ _ _ hK hK2)) k (Nat.le_refl k)
    rcases hg with q | q
    · exact q
    · have := hk 0 h0
      exact absurd q (by simpa using this)
  · intro k m hmk hm
    have h1 : x.o (m + 1) = [] := by
      rw [Sp.o_succ]
      cases m with
      | zero => rw [Sp.O_zero, if_pos (by simpa using hm)]
      | succ m => rw [Int.natCast_succ] at hm; rw [Sp.O_succ, if_pos hm]
    exact Sp.nil_on hp hA m h1 k (by omega)

/-- The guardian's word. -/
theorem Sp.guarded {x : Sp} (h : x.Ok) (hp : x.pair = false) (hK : x.f.K ≠ 1) (hK2 : x.f.K ≠ 2) (hA : x.f.A = []) (hon : ∀ k : Int, x.st (x.nd k) ≠ 0) :
    ∀ k : Nat, 1 ≤ k → x.o k = if admitB x.c (x.st (x.nd 1)) (x.dv (x.nd 1)) then x.snd else [] := by
  intro k hk
  cases hg : admitB x.c (x.st (x.nd 1)) (x.dv (x.nd 1))
  · have hD : (x.sd 0).D = [] := by rw [Sp.D_zero, guard_no _ _ _ _ hg]
    rw [if_neg (by simp)]
    exact Sp.nil_on hp hA 0 (Sp.o_nil x hp 0 hD) k hk
  · rw [if_pos rfl]
    exact (Sp.off h hp hK hK2 hA (.inl hg)).1 k (fun j _ => hon _)

end Plait
/-
  Plain mathematics of a slot, all round, on: both directions: reached; a dead link; one direction is the other one, the ring turned about.
-/
namespace Plait

/-- The other direction. -/
def Sp.back (x : Sp) : Sp := { x with d := -1 }

theorem Sp.back_ok {x : Sp} (h : x.Ok) : x.back.Ok := ⟨h.c, .inr rfl, h.p0, h.snd, h.oth⟩

theorem Sp.back_nd {x : Sp} (hd : x.d = 1) (k : Int) : x.back.nd k = x.nd (x.c.N - k) := by
  show (x.p0 + -1 * k) % x.c.N = (x.p0 + x.d * (x.c.N - k)) % x.c.N
  rw [hd, Int.one_mul, show x.p0 + (x.c.N - k) = (x.p0 + -1 * k) + x.c.N * 1 by omega, Int.add_mul_emod_self_left]

/-- Where the near end of a link lies, in the direction upward. -/
theorem Sp.link_place {x : Sp} (h : x.Ok) (h0 : 0 ≤ x.f.At) (h1 : x.f.At < 2 * x.c.N) : ∃ a : Nat, (a : Int) < x.c.N ∧ x.nd a = endA x.c.N x.f.At := by
  refine Sp.nd_of h _ ?_
  unfold endA
  split <;> omega

/-- Upward: all up to the link's near end have all. -/
theorem Sp.up_free {x : Sp} (h : x.Ok) (hp : x.pair = false) (hd : x.d = 1) (ho : x.On) (hK : x.f.K = 2) (a : Nat) (han : (a : Int) < x.c.N) (ha : x.nd a = endA x.c.N x.f.At) (k : Nat) (hk : k ≤ a) : x.o k = x.snd := by
  have i0 := x.nd_in h
  refine Sp.calm x a hp h.snd (fun k _ => ho.on _) (fun _ => ho.adm) (fun j hj => .inl ?_) (fun j hj => .inl ?_) k hk
  · rw [Sp.hit1 h hK, if_pos hd, beq_eq_false_iff_ne]
    intro e
    have i1 := i0 (j : Int)
    have : x.nd j = x.nd a := by rw [ha, ← e]; unfold endA; rw [if_pos (by omega)]
    have := Sp.place_uniq h j a (by omega) han this
    omega
  · rw [Sp.hit2 h hK, if_pos hd, beq_eq_false_iff_ne]
    intro e
    have i1 := i0 (j : Int)
    have : x.nd j = x.nd a := by rw [ha, ← e]; unfold endA; rw [if_neg (by omega)]; omega
    have := Sp.place_uniq h j a (by omega) han this
    omega

/-- Downward: all down to behind it. -/
theorem Sp.down_free {x : Sp} (h : x.Ok) (hp : x.pair = false) (hd : x.d = 1) (ho : x.back.On) (hK : x.f.K = 2) (a : Nat) (han : (a : Int) < x.c.N) (ha : x.nd a = endA x.c.N x.f.At) (k : Nat) (hk : (a : Int) < x.c.N - k) (hkn : (k : Int) < x.c.N) : x.back.o k = x.snd := by
  have hb := Sp.back_ok h
  have i0 := x.nd_in h
  have hdb : ¬ x.back.d = 1 := by show ¬ ((-1 : Int) = 1); omega
  have hKb : x.back.f.K = 2 := hK
  refine Sp.calm x.back k hp h.snd (fun k _ => ho.on _) (fun _ => ho.adm) (fun j hj => .inl ?_) (fun j hj => .inl ?_) k (Nat.le_refl k)
  · rw [Sp.hit1 hb hKb, if_neg hdb, beq_eq_false_iff_ne, Sp.back_nd hd]
    intro e
    have i1 := i0 (x.c.N - ((j : Int) + 1))
    have e' : x.nd (x.c.N - ((j : Int) + 1)) = x.f.At := e
    have e2 : x.nd (((x.c.N - ((j : Int) + 1)).toNat : Nat) : Int) = x.nd a := by
      rw [Int.toNat_of_nonneg (by omega), e', ha]; unfold endA; rw [if_pos (by omega)]
    have := Sp.place_uniq h _ a (by omega) han e2
    omega
  · rw [Sp.hit2 hb hKb, if_neg hdb, beq_eq_false_iff_ne, Sp.back_nd hd]
    intro e
    have i1 := i0 (x.c.N - ((j : Int) + 1 + 1))
    have e' : x.c.N + x.nd (x.c.N - ((j : Int) + 1 + 1)) = x.f.At := e
    have e2 : x.nd (((x.c.N - ((j : Int) + 1 + 1)).toNat : Nat) : Int) = x.nd a := by
      rw [Int.toNat_of_nonneg (by omega), ha]; unfold endA; rw [if_neg (by omega)]; omega
    have := Sp.place_uniq h _ a (by omega) han e2
    omega

/-- T1: what a right owner sends comes whole, one way round at least. -/
theorem Sp.reaches {x : Sp} (h : x.Ok) (hp : x.pair = false) (hd : x.d = 1) (ho : x.On) (hob : x.back.On) (hown : rightB x.f x.r (x.nd 0) = true)
    (hk3 : x.f.K = 0 ∨ x.f.K = 1 ∨ x.f.K = 2) (a1 : x.f.K = 1 → 0 ≤ x.f.At ∧ x.f.At < x.c.N) (a2 : x.f.K = 2 → 0 ≤ x.f.At ∧ x.f.At < 2 * x.c.N) (k : Nat) (k1 : 1 ≤ k) (hkn : (k : Int) < x.c.N) (hr : rightB x.f x.r (x.nd k) = true) :
    x.o k = x.snd ∨ x.back.o (x.c.N - k).toNat = x.snd := by
  have n6 := h.c.n6
  by_cases hlive : x.f.To ≤ x.r
  · exact .inl (Sp.calm x k hp h.snd (fun k _ => ho.on _) (fun _ => ho.adm) (fun j hj => .inr hlive) (fun j hj => .inr hlive) k (Nat.le_refl k))
  rcases hk3 with hK | hK | hK
  · exact .inl (Sp.calm x k hp h.snd (fun k _ => ho.on _) (fun _ => ho.adm) (fun j hj => .inl (hits_none _ _ _ _ (by omega) (by omega))) (fun j hj => .inl (hits_none _ _ _ _ (by omega) (by omega))) k (Nat.le_refl k))
  · obtain ⟨p, hpn, hz⟩ := Sp.nd_of h x.f.At (a1 hK)
    have p0 : p ≠ 0 := by
      rintro rfl
      rcases rightB_yes hown with w | w | w
      · omega
      · omega
      · exact w hz.symm
    have pk : p ≠ k := by
      rintro rfl
      rcases rightB_yes hr with w | w | w
      · omega
      · omega
      · exact w hz.symm
    by_cases hkp : k < p
    · left
      refine Sp.calm x k hp h.snd (fun k _ => ho.on _) (fun _ => ho.adm) (fun j hj => .inl ?_) (fun j hj => .inl ?_) k (Nat.le_refl k)
      · rw [hits_node _ _ _ _ hK, beq_eq_false_iff_ne, ← hz]
        exact (Sp.nd_ne h j p (by omega) (by omega)).symm
      · rw [hits_node _ _ _ _ hK, beq_eq_false_iff_ne, ← hz]
        exact (Sp.nd_ne h j p (by omega) (by omega)).symm
    · right
      refine Sp.calm x.back (x.c.N - k).toNat hp h.snd (fun k _ => hob.on _) (fun _ => hob.adm) (fun j hj => .inl ?_) (fun j hj => .inl ?_) _ (Nat.le_refl _)
      · rw [hits_node x.back.c x.back.f _ _ hK, beq_eq_false_iff_ne, Sp.back_nd hd]
        show x.f.At ≠ _
        rw [← hz]
        exact Sp.nd_ne h p (x.c.N - j) (by omega) (by omega)
      · rw [hits_node x.back.c x.back.f _ _ hK, beq_eq_false_iff_ne, Sp.back_nd hd]
        show x.f.At ≠ _
        rw [← hz]
        exact Sp.nd_ne h p (x.c.N - j) (by omega) (by omega)
  · obtain ⟨l0, l1⟩ := a2 hK
    obtain ⟨a, han, ha⟩ := Sp.link_place h l0 l1
    by_cases hka : k ≤ a
    · exact .inl (Sp.up_free h hp hd ho hK a han ha k hka)
    · right
      have e : (((x.c.N - k).toNat : Nat) : Int) = x.c.N - k := Int.toNat_of_nonneg (by omega)
      exact Sp.down_free h hp hd hob hK a han ha _ (by omega) (by omega)

/-- What a locus that does nothing lets by is all, or nothing. -/
theorem Sp.em_two (x : Sp) (hA : x.f.A = []) (a b : Int) (l : List UInt8) (hc : clean l = l) : x.em a b l = l ∨ x.em a b l = [] := by
  unfold Sp.em emitL
  split
  · exact .inl hc
  · rw [if_pos (.inr hA)]; exact .inr rfl

theorem out_two (cmp : Bool) (D S s : List UInt8) (hs : clean s = s) (hD : D = s ∨ D = []) (hS : S = s ∨ S = []) : outL cmp D S = s ∨ outL cmp D S = [] := by
  cases cmp
  · rcases hD with rfl | rfl
    · exact .inl hs
    · exact .inr rfl
  · rw [outL_true]
    rcases hD with rfl | rfl
    · rcases hS with rfl | rfl
      · rw [common_self]; exact .inl hs
      · exact .inr (common_nil_right _)
    · exact .inr (common_nil_left _)

theorem Sp.two {x : Sp} (h : x.Ok) (hp : x.pair = false) (hA : x.f.A = []) : ∀ k : Nat, x.o k = x.snd ∨ x.o k = [] := by
  intro k
  have hE : ∀ (a b : Int) (l : List UInt8), (l = x.snd ∨ l = []) → (x.em a b l = x.snd ∨ x.em a b l = []) := by
    intro a b l hl
    rcases hl with rfl | rfl
    · exact Sp.em_two x hA a b _ h.snd
    · exact .inr (Sp.em_nil x hA a b)
  induction k using Nat.strongRecOn with
  | ind k ih =>
    match k with
    | 0 => exact .inl rfl
    | 1 =>
      rw [Sp.o_succ, Sp.O_zero]
      split
      · exact .inr rfl
      · refine out_two _ _ _ _ h.snd ?_ ?_
        · rw [Sp.D_zero]
          unfold guardL
          split
          · exact hE 0 1 _ (.inl rfl)
          · exact .inr rfl
        · rw [Sp.S_zero, hp]; exact .inr rfl
    | k + 2 =>
      rw [show k + 2 = (k + 1) + 1 from rfl, Sp.o_succ, Sp.O_succ]
      split
      · exact .inr rfl
      · refine out_two _ _ _ _ h.snd ?_ ?_
        · rw [Sp.D_succ]; exact hE _ _ _ (ih (k + 1) (by omega))
        · rw [Sp.S_succ]; exact hE _ _ _ (ih k (by omega))

/-- A dead link: never both. -/
theorem Sp.dead_link {x : Sp} (h : x.Ok) (hp : x.pair = false) (hd : x.d = 1) (ho : x.On) (hob : x.back.On) (hK : x.f.K = 2) (l0 : 0 ≤ x.f.At) (l1 : x.f.At < 2 * x.c.N) (k : Nat) (hkn : (k : Int) < x.c.N) (_ : 1 ≤ k) :
    x.o k = x.snd ∨ x.back.o (x.c.N - k).toNat = x.snd := by
  obtain ⟨a, han, ha⟩ := Sp.link_place h l0 l1
  by_cases hka : k ≤ a
  · exact .inl (Sp.up_free h hp hd ho hK a han ha k hka)
  · right
    have e : (((x.c.N - k).toNat : Nat) : Int) = x.c.N - k := Int.toNat_of_nonneg (by omega)
    exact Sp.down_free h hp hd hob hK a han ha _ (by omega) (by omega)

/-- W3: one direction is the other one. -/
theorem Sp.mirror (x y : Sp) (hp : x.pair = y.pair) (hs : x.snd = y.snd) (ht : x.oth = y.oth) (hc : x.c = y.c) (hA : x.f.A = []) (hA2 : y.f.A = []) (hT : x.f.To = y.f.To) (hr : x.r = y.r)
    (hst : ∀ k : Int, x.st (x.nd k) = y.st (y.nd k)) (hdv : ∀ k : Int, x.dv (x.nd k) = y.dv (y.nd k)) (hh : ∀ a b : Int, hitsB x.c x.f (x.nd a) (x.nd b) = hitsB y.c y.f (y.nd a) (y.nd b)) :
    ∀ k : Nat, x.sd k = y.sd k ∧ x.o k = y.o k := by
  have hE : ∀ (a b : Int) (l : List UInt8), x.em a b l = y.em a b l := by
    intro a b l
    unfold Sp.em emitL
    rw [hh, hT, hr]
    split
    · rfl
    · rw [if_pos (.inr hA), if_pos (.inr hA2)]
  have hside : ∀ (k : Nat) (q : List UInt8) (p : Option (List UInt8)), x.side k q p = y.side k q p := by
    intro k q p
    unfold Sp.side
    rw [hE, hst 1, hdv 1, hc, hst, hp]
    cases p
    · rfl
    · dsimp only
      rw [hE]
  have hout : ∀ k : Nat, x.out k = y.out k := by
    intro k
    induction k with
    | zero => unfold Sp.out; rw [hs, ht, hp]
    | succ k ih =>
      show ((x.side k (x.out k).1 (x.out k).2).O, some (x.out k).1) = ((y.side k (y.out k).1 (y.out k).2).O, some (y.out k).1)
      rw [ih, hside]
  intro k
  exact ⟨by unfold Sp.sd; rw [hout, hside], by unfold Sp.o; rw [hout]⟩

/-- Without a locus, all on and let in: what each had. -/
theorem Sp.still {x : Sp} (h : x.Ok) (hp : x.pair = false) (ho : x.On) (hK : x.f.K ≠ 1) (hK2 : x.f.K ≠ 2) (k : Nat) :
    x.o k = x.snd ∧ (x.sd k).D = x.snd ∧ (x.sd k).S = if k = 0 then [] else x.snd := by
  have hall : ∀ k : Nat, x.o k = x.snd := fun k => Sp.calm x k hp h.snd (fun k _ => ho.on _) (fun _ => ho.adm) (fun j hj => .inl (hits_none _ _ _ _ hK hK2)) (fun j hj => .inl (hits_none _ _ _ _ hK hK2)) k (Nat.le_refl k)
  refine ⟨hall k, ?_, ?_⟩
  · cases k with
    | zero => rw [Sp.D_zero, guard_yes _ _ _ _ ho.adm]; exact Sp.em_same x 0 1 _ h.snd (.inl (hits_none _ _ _ _ hK hK2))
    | succ k => rw [Sp.D_succ, hall]; exact Sp.em_same x _ _ _ h.snd (.inl (hits_none _ _ _ _ hK hK2))
  · cases k with
    | zero => rw [Sp.S_zero, hp]; rfl
    | succ k => rw [Sp.S_succ, hall, if_neg (by omega)]; exact Sp.em_same x _ _ _ h.snd (.inl (hits_none _ _ _ _ hK hK2))

end Plait
/-
  A slot's walk, step by step, is what each node has, place by place.
-/
namespace Go.Proofs.YthhmedlefahccaaGreatDoor
open Go.RowKit Plait
set_option maxRecDepth 100000
set_option linter.unusedVariables false

/-- The slot's, out of a call's arguments. -/
def spOf (c : Cf) (f : Fa) (r s d : Int) (sends : List (List UInt8)) (st dv : List Int) : Sp :=
  ⟨c, f, r, s, d, lastI (owners c s) d, decide ((owners c s).length = 2), (if d < 0 then sends.getD 0 [] else sends.getD ((owners c s).length - 1) []), (if d < 0 then sends.getD 1 [] else sends.getD 0 []), fun i => st.getD i.toNat 0, fun i => dv.getD i.toNat 0⟩

theorem owners_cases (c : Cf) (hc : c.Ok) (s : Int) (s0 : 0 ≤ s) :
    (s < c.N ∧ owners c s = [s]) ∨ (c.N ≤ s ∧ ∃ a, 0 ≤ a ∧ a < c.N ∧ owners c s = [a, (a + 1) % c.N]) ∨ (c.N ≤ s ∧ owners c s = []) := by
  by_cases h : nodeB c s = true
  · exact .inl ⟨((nodeB_iff c s).1 h).2, owners_node c s h⟩
  · have hs : c.N ≤ s := by
      rcases Int.lt_or_le s c.N with q | q
      · exact absurd ((nodeB_iff c s).2 ⟨s0, q⟩) h
      · exact q
    rw [Bool.not_eq_true] at h
    by_cases h2 : nodeB c (pairAt c s) = true
    · have := (nodeB_iff c _).1 h2
      exact .inr (.inl ⟨hs, _, this.1, this.2, owners_pair c s h h2⟩)
    · rw [Bool.not_eq_true] at h2
      exact .inr (.inr ⟨hs, owners_none c s h h2⟩)

theorem nd_back1 {x : Sp} (k : Int) : (x.nd (k + 1) - x.d) % x.c.N = x.nd k := by
  unfold Sp.nd
  rw [Int.sub_emod, Int.emod_emod, ← Int.sub_emod]
  congr 1
  rw [Int.mul_add]; omega
theorem nd_back2 {x : Sp} (k : Int) : (x.nd (k + 1) - 2 * x.d) % x.c.N = x.nd (k - 1) := by
  unfold Sp.nd
  rw [Int.sub_emod, Int.emod_emod, ← Int.sub_emod]
  congr 1
  rw [Int.mul_add, Int.mul_sub]; omega

theorem nd_toNat {x : Sp} (h : x.Ok) (a b : Int) : (x.nd a).toNat = (x.nd b).toNat ↔ x.nd a = x.nd b := by
  have h1 := x.nd_in h a
  have h2 := x.nd_in h b
  constructor
  · intro e; omega
  · intro e; rw [e]

/-- The state behind k nodes of the way, told by places. -/
structure RunInv (x : Sp) (L : Nat) (k : Nat) (G : (Nat → Sd) × (Nat → Bool)) : Prop where
  kn : ∀ m : Nat, m ≤ k → G.2 (x.nd m).toNat = true
  out : ∀ m : Nat, m ≤ k → (G.1 (x.nd m).toNat).O = x.o m
  sd : ∀ m : Nat, 0 < m → m ≤ k → G.1 (x.nd m).toNat = x.sd (m - 1)
  own : G.1 (x.nd 0).toNat = ⟨[], [], x.snd, 0⟩
  oth : x.pair = true → G.2 (x.nd (-1)).toNat = true ∧ G.1 (x.nd (-1)).toNat = ⟨[], [], x.oth, 0⟩
  one : x.pair = false → k = 0 → G.2 (x.nd (-1)).toNat = false

theorem updN_at {α : Type} (g : Nat → α) (j i : Nat) (v : α) : updN g j v i = if i = j then v else g i := rfl

theorem side_at {x : Sp} {L k : Nat} {G : (Nat → Sd) × (Nat → Bool)} (h : x.Ok) (hp : x.pair = decide (x.c.N ≤ x.s)) (I : RunInv x L k G) (hk : (k : Int) + 1 < x.c.N) (st dv : List Int) (hst : x.st = fun i => st.getD i.toNat 0) (hdv : x.dv = fun i => dv.getD i.toNat 0) :
    sideG x.c x.f x.r x.s x.d st dv k (x.nd ((k : Int) + 1)) G = x.sd k := by
  have n6 := h.c.n6
  unfold sideG
  simp only [nd_back1, nd_back2]
  have hS : (if G.2 (x.nd ((k : Int) - 1)).toNat then clean (emitL x.c x.f x.r x.s (x.nd ((k : Int) - 1)) (x.nd ((k : Int) + 1)) (G.1 (x.nd ((k : Int) - 1)).toNat).O) else []) = (x.sd k).S := by
    cases k with
    | zero =>
      rw [Sp.S_zero]
      cases hpp : x.pair
      · have := I.one hpp rfl
        rw [show ((0 : Nat) : Int) - 1 = -1 by omega, this]; rfl
      · obtain ⟨q1, q2⟩ := I.oth hpp
        rw [show ((0 : Nat) : Int) - 1 = -1 by omega, q1, q2]; rfl
    | succ k =>
      rw [Sp.S_succ, show ((k + 1 : Nat) : Int) - 1 = (k : Int) by omega, I.kn k (by omega), I.out k (by omega), show ((k + 1 : Nat) : Int) + 1 = (k : Int) + 1 + 1 by omega]; rfl
  have hD : (if k = 0 then guardL x.c (st.getD (x.nd ((k : Int) + 1)).toNat 0) (dv.getD (x.nd ((k : Int) + 1)).toNat 0) (clean (emitL x.c x.f x.r x.s (x.nd k) (x.nd ((k : Int) + 1)) (G.1 (x.nd k).toNat).O)) else clean (emitL x.c x.f x.r x.s (x.nd k) (x.nd ((k : Int) + 1)) (G.1 (x.nd k).toNat).O)) = (x.sd k).D := by
    cases k with
    | zero =>
      rw [Sp.D_zero, if_pos rfl, I.out 0 (by omega), hst, hdv]; rfl
    | succ k =>
      rw [Sp.D_succ, if_neg (by omega), I.out (k + 1) (by omega)]
      rw [show ((k + 1 : Nat) : Int) = (k : Int) + 1 by omega]; rfl
  rw [hS, hD]
  have hO : (x.sd k).O = if st.getD (x.nd ((k : Int) + 1)).toNat 0 = 0 then [] else outL (decide (0 < k) || decide (x.c.N ≤ x.s)) (x.sd k).D (x.sd k).S := by
    rw [← hp]
    show (if x.st (x.nd ((k : Int) + 1)) = 0 then [] else outL (decide (0 < k) || x.pair) (x.sd k).D (x.sd k).S) = _
    rw [hst]
  rw [← hO]
  have hF := Sp.sd_F x k
  cases hx : x.sd k with
  | mk D S O F =>
    rw [hx] at hF
    simp only at hF
    rw [hF]

theorem inv_step {x : Sp} {L k : Nat} {G : (Nat → Sd) × (Nat → Bool)} (h : x.Ok) (hp : x.pair = decide (x.c.N ≤ x.s)) (I : RunInv x L k G) (hk : (k : Int) + 1 < x.c.N) (hk2 : x.pair = true → (k : Int) + 2 < x.c.N) (st dv : List Int) (hst : x.st = fun i => st.getD i.toNat 0) (hdv : x.dv = fun i => dv.getD i.toNat 0) :
    RunInv x L (k + 1) (updN G.1 (x.nd ((k : Int) + 1)).toNat (sideG x.c x.f x.r x.s x.d st dv k (x.nd ((k : Int) + 1)) G), updN G.2 (x.nd ((k : Int) + 1)).toNat true) := by
  have n6 := h.c.n6
  rw [side_at h hp I hk st dv hst hdv]
  have e : ∀ m : Nat, m ≤ k → (x.nd m).toNat ≠ (x.nd ((k : Int) + 1)).toNat := by
    intro m hm q
    exact Sp.nd_ne h m ((k : Int) + 1) (by omega) (by omega) ((nd_toNat h _ _).1 q)
  have e1 : ((k + 1 : Nat) : Int) = (k : Int) + 1 := by omega
  refine ⟨fun m hm => ?_, fun m hm => ?_, fun m h0 hm => ?_, ?_, fun hpp => ?_, fun _ q => by omega⟩ <;> try dsimp only
  · by_cases q : m = k + 1
    · subst q; rw [e1, updN_same]
    · rw [updN_other _ _ _ _ (e m (by omega))]; exact I.kn m (by omega)
  · by_cases q : m = k + 1
    · subst q; rw [e1, updN_same]; rfl
    · rw [updN_other _ _ _ _ (e m (by omega))]; exact I.out m (by omega)
  · by_cases q : m = k + 1
    · subst q; rw [e1, updN_same]; rfl
    · rw [updN_other _ _ _ _ (e m (by omega))]; exact I.sd m h0 (by omega)
  · have e00 := e 0 (by omega)
    rw [show ((0 : Nat) : Int) = 0 from rfl] at e00
    rw [updN_other _ _ _ _ e00]; exact I.own
  · have hk3 := hk2 hpp
    have q : (x.nd (-1)).toNat ≠ (x.nd ((k : Int) + 1)).toNat := fun q => Sp.nd_ne h (-1) ((k : Int) + 1) (by omega) (by omega) ((nd_toNat h _ _).1 q)
    rw [updN_other _ _ _ _ q, updN_other _ _ _ _ q]
    exact I.oth hpp

/-- The way, by places. -/
theorem way_get (n : Int) (os : List Int) (d : Int) (hos : os ≠ []) (k : Nat) (hk : k < n.toNat - os.length) : (wayR n os d).getD k 0 = (lastI os d + d * ((k : Int) + 1)) % n := by
  unfold wayR
  rw [if_neg hos]
  unfold walkTo
  rw [List.getD_eq_getElem?_getD, List.getElem?_map, List.getElem?_range hk]
  show (lastI os d + ((k : Int) + 1) * d) % n = _
  rw [Int.mul_comm]

/-- A call's arguments as they may be. -/
structure CallOk (g : Cf) (s' d' : Int) (sends : List (List UInt8)) : Prop where
  c : g.Ok
  d : d' = 1 ∨ d' = -1
  s : 0 ≤ s'
  own : owners g s' ≠ []
  len : sends.length = (owners g s').length
  str : ∀ l ∈ sends, clean l = l

theorem getD_str {sends : List (List UInt8)} (h : ∀ l ∈ sends, clean l = l) (k : Nat) : clean (sends.getD k []) = sends.getD k [] := by
  rw [List.getD_eq_getElem?_getD]
  cases hq : sends[k]? with
  | none => rfl
  | some l => exact h l (List.mem_of_getElem? hq)

theorem spOf_ok {c : Cf} {f : Fa} {r s d : Int} {sends : List (List UInt8)} {st dv : List Int} (h : CallOk c s d sends) : (spOf c f r s d sends st dv).Ok := by
  have n6 := h.c.n6
  refine ⟨h.c, h.d, ?_, ?_, ?_⟩
  · show 0 ≤ lastI (owners c s) d ∧ lastI (owners c s) d < c.N
    rcases owners_cases c h.c s h.s with ⟨h1, e⟩ | ⟨h1, a, a0, a1, e⟩ | ⟨h1, e⟩
    · rw [e]; unfold lastI; split <;> simp <;> exact ⟨h.s, h1⟩
    · have b0 := Int.emod_nonneg (a + 1) (show c.N ≠ 0 by omega)
      have b1 := Int.emod_lt_of_pos (a + 1) (show 0 < c.N by omega)
      rw [e]; unfold lastI; split
      · exact ⟨a0, a1⟩
      · exact ⟨b0, b1⟩
    · exact absurd e h.own
  · show clean (if d < 0 then sends.getD 0 [] else sends.getD ((owners c s).length - 1) []) = (if d < 0 then sends.getD 0 [] else sends.getD ((owners c s).length - 1) [])
    split <;> exact getD_str h.str _
  · show clean (if d < 0 then sends.getD 1 [] else sends.getD 0 []) = (if d < 0 then sends.getD 1 [] else sends.getD 0 [])
    split <;> exact getD_str h.str _

theorem spOf_pair {c : Cf} {f : Fa} {r s d : Int} {sends : List (List UInt8)} {st dv : List Int} (h : CallOk c s d sends) : (spOf c f r s d sends st dv).pair = decide (c.N ≤ s) := by
  show decide ((owners c s).length = 2) = _
  rcases owners_cases c h.c s h.s with ⟨h1, e⟩ | ⟨h1, a, a0, a1, e⟩ | ⟨h1, e⟩
  · rw [e]; simp; omega
  · rw [e]; simp; omega
  · exact absurd e h.own

theorem next_ne (a n : Int) (a0 : 0 ≤ a) (a1 : a < n) (h : 6 ≤ n) : (a + 1) % n ≠ a ∧ 0 ≤ (a + 1) % n ∧ (a + 1) % n < n ∧ ((a + 1) % n - 1) % n = a := by
  rcases (by omega : a + 1 < n ∨ a + 1 = n) with q | q
  · rw [Int.emod_eq_of_lt (by omega) q]
    refine ⟨by omega, by omega, by omega, ?_⟩
    rw [show a + 1 - 1 = a by omega]; exact Int.emod_eq_of_lt a0 a1
  · rw [q, Int.emod_self]
    refine ⟨by omega, by omega, by omega, ?_⟩
    rw [show (0 : Int) - 1 = -1 by omega, emod_neg1 n h]; omega

theorem inv_start {c : Cf} {f : Fa} {r s d : Int} {sends : List (List UInt8)} {st dv : List Int} (h : CallOk c s d sends) (L : Nat) :
    RunInv (spOf c f r s d sends st dv) L 0 (iniG (owners c s) sends (owners c s).length) := by
  have n6 := h.c.n6
  have ok := spOf_ok (f := f) (r := r) (st := st) (dv := dv) h
  have z0 := Sp.nd_zero ok
  have z0' : (spOf c f r s d sends st dv).nd 0 = lastI (owners c s) d := z0
  have zm : (spOf c f r s d sends st dv).nd (-1) = (lastI (owners c s) d - d) % c.N := by
    show (lastI (owners c s) d + d * -1) % c.N = _
    congr 1; omega
  have hp := spOf_pair (f := f) (r := r) (st := st) (dv := dv) h
  have key : (iniG (owners c s) sends (owners c s).length).2 (lastI (owners c s) d).toNat = true ∧ (iniG (owners c s) sends (owners c s).length).1 (lastI (owners c s) d).toNat = ⟨[], [], (spOf c f r s d sends st dv).snd, 0⟩ ∧
      ((spOf c f r s d sends st dv).pair = true → (iniG (owners c s) sends (owners c s).length).2 ((lastI (owners c s) d - d) % c.N).toNat = true ∧ (iniG (owners c s) sends (owners c s).length).1 ((lastI (owners c s) d - d) % c.N).toNat = ⟨[], [], (spOf c f r s d sends st dv).oth, 0⟩) ∧
      ((spOf c f r s d sends st dv).pair = false → (iniG (owners c s) sends (owners c s).length).2 ((lastI (owners c s) d - d) % c.N).toNat = false) := by
    rw [hp]
    unfold spOf
    dsimp only
    rcases owners_cases c h.c s h.s with ⟨h1, e⟩ | ⟨h1, a, a0, a1, e⟩ | ⟨h1, e⟩
    · rw [e]
      have el : lastI [s] d = s := by unfold lastI; split <;> rfl
      rw [el]
      have e0 : iniG [s] sends [s].length = (updN (fun _ => zeroSd) s.toNat { zeroSd with O := sends.getD 0 [] }, updN (fun _ => false) s.toNat true) := rfl
      rw [e0]
      dsimp only
      rw [updN_same, updN_same]
      refine ⟨rfl, ?_, fun q => ?_, fun _ => ?_⟩
      · show (⟨[], [], sends.getD 0 [], 0⟩ : Sd) = _
        congr 1
        split <;> rfl
      · simp at q; omega
      · have : ((s - d) % c.N).toNat ≠ s.toNat := by
          have hs := h.s
          rcases h.d with rfl | rfl
          · rcases (by omega : 0 < s ∨ s = 0) with q | q
            · rw [Int.emod_eq_of_lt (by omega) (by omega)]; omega
            · subst q; rw [show (0 : Int) - 1 = -1 by omega, emod_neg1 _ n6]; omega
          · rw [show s - -1 = s + 1 by omega]
            have := next_ne s c.N hs h1 n6
            omega
        rw [updN_other _ _ _ _ this]
    · have nn := next_ne a c.N a0 a1 n6
      rw [e]
      have e0 : iniG [a, (a + 1) % c.N] sends [a, (a + 1) % c.N].length = (updN (updN (fun _ => zeroSd) a.toNat { zeroSd with O := sends.getD 0 [] }) ((a + 1) % c.N).toNat { (updN (fun _ => zeroSd) a.toNat { zeroSd with O := sends.getD 0 [] }) ((a + 1) % c.N).toNat with O := sends.getD 1 [] },
        updN (updN (fun _ => false) a.toNat true) ((a + 1) % c.N).toNat true) := rfl
      have ne : ((a + 1) % c.N).toNat ≠ a.toNat := by omega
      have gb : updN (fun _ => zeroSd) a.toNat { zeroSd with O := sends.getD 0 [] } ((a + 1) % c.N).toNat = zeroSd := updN_other _ _ _ _ ne
      rw [e0, gb]
      dsimp only
      rcases h.d with rfl | rfl
      · have el : lastI [a, (a + 1) % c.N] 1 = (a + 1) % c.N := rfl
        rw [el, nn.2.2.2, updN_same, updN_same, updN_other _ _ _ _ (Ne.symm ne), updN_other _ _ _ _ (Ne.symm ne), updN_same, updN_same]
        exact ⟨rfl, rfl, fun _ => ⟨rfl, rfl⟩, fun q => by simp at q; omega⟩
      · have el : lastI [a, (a + 1) % c.N] (-1) = a := rfl
        rw [el, show a - -1 = a + 1 by omega, updN_same, updN_same, updN_other _ _ _ _ (Ne.symm ne), updN_other _ _ _ _ (Ne.symm ne), updN_same, updN_same]
        exact ⟨rfl, rfl, fun _ => ⟨rfl, rfl⟩, fun q => by simp at q; omega⟩
    · exact absurd e h.own
  obtain ⟨k1, k2, k3, k4⟩ := key
  have n0 : ∀ m : Nat, m ≤ 0 → (spOf c f r s d sends st dv).nd (m : Int) = lastI (owners c s) d := by
    intro m hm
    obtain rfl : m = 0 := by omega
    exact z0'
  refine ⟨fun m hm => ?_, fun m hm => ?_, fun m h0 hm => by omega, ?_, fun q => ?_, fun q _ => ?_⟩
  · rw [n0 m hm]; exact k1
  · rw [n0 m hm, k2]
    obtain rfl : m = 0 := by omega
    rfl
  · rw [z0', k2]
  · rw [zm]; exact k3 q
  · rw [zm]; exact k4 q

theorem inv_run {c : Cf} {f : Fa} {r s d : Int} {sends : List (List UInt8)} {st dv : List Int} (h : CallOk c s d sends) :
    ∀ k : Nat, k ≤ c.N.toNat - (owners c s).length → RunInv (spOf c f r s d sends st dv) (c.N.toNat - (owners c s).length) k (runG c f r s d sends st dv (wayR c.N (owners c s) d) k) := by
  have n6 := h.c.n6
  have ok := spOf_ok (f := f) (r := r) (st := st) (dv := dv) h
  have hp := spOf_pair (f := f) (r := r) (st := st) (dv := dv) h
  have hl : 0 < (owners c s).length := by rcases Nat.eq_zero_or_pos (owners c s).length with q | q; exact absurd (List.eq_nil_of_length_eq_zero q) h.own; exact q
  intro k
  induction k with
  | zero => intro _; exact inv_start h _
  | succ k ih =>
    intro hk
    have I := ih (by omega)
    have e : (wayR c.N (owners c s) d).getD k 0 = (spOf c f r s d sends st dv).nd ((k : Int) + 1) := way_get _ _ _ h.own k (by omega)
    show RunInv _ _ (k + 1) (updN _ ((wayR c.N (owners c s) d).getD k 0).toNat (sideG c f r s d st dv k ((wayR c.N (owners c s) d).getD k 0) _), updN _ ((wayR c.N (owners c s) d).getD k 0).toNat true)
    rw [e]
    have hlp : (spOf c f r s d sends st dv).pair = true → (owners c s).length = 2 := fun q => by
      have : decide ((owners c s).length = 2) = true := q
      simpa using this
    exact inv_step ok hp I (by show (k : Int) + 1 < c.N; omega) (fun q => by have := hlp q; show (k : Int) + 2 < c.N; omega) st dv rfl rfl

/-- The node ahead is known at each step. -/
theorem near_known {c : Cf} {f : Fa} {r s d : Int} {sends : List (List UInt8)} {st dv : List Int} (h : CallOk c s d sends) (k : Nat) (hk : k < c.N.toNat - (owners c s).length) :
    (runG c f r s d sends st dv (wayR c.N (owners c s) d) k).2 (((wayR c.N (owners c s) d).getD k 0 - d) % c.N).toNat = true := by
  have I := inv_run (f := f) (r := r) (st := st) (dv := dv) h k (by omega)
  have e : (wayR c.N (owners c s) d).getD k 0 = (spOf c f r s d sends st dv).nd ((k : Int) + 1) := way_get _ _ _ h.own k hk
  rw [e]
  have := nd_back1 (x := spOf c f r s d sends st dv) (k : Int)
  have e2 : ((spOf c f r s d sends st dv).nd ((k : Int) + 1) - d) % c.N = (spOf c f r s d sends st dv).nd k := this
  rw [e2]
  exact I.kn k (Nat.le_refl k)

/-- What each node had, in the end. -/
def endG (c : Cf) (f : Fa) (r s d : Int) (sends : List (List UInt8)) (st dv : List Int) : Nat → Sd :=
  (runG c f r s d sends st dv (wayR c.N (owners c s) d) (wayR c.N (owners c s) d).length).1

theorem way_len (n : Int) (os : List Int) (d : Int) (h : os ≠ []) : (wayR n os d).length = n.toNat - os.length := by
  unfold wayR
  rw [if_neg h, walkTo_len]

/-- A slot of one owner: of the node so many steps on. -/
theorem end_own {c : Cf} {f : Fa} {r s d : Int} {sends : List (List UInt8)} {st dv : List Int} (h : CallOk c s d sends) (h1 : s < c.N) (m : Nat) (hm : (m : Int) < c.N) :
    (endG c f r s d sends st dv ((spOf c f r s d sends st dv).nd m).toNat).O = (spOf c f r s d sends st dv).o m ∧ (endG c f r s d sends st dv ((spOf c f r s d sends st dv).nd m).toNat).F = m ∧
    (0 < m → endG c f r s d sends st dv ((spOf c f r s d sends st dv).nd m).toNat = (spOf c f r s d sends st dv).sd (m - 1)) := by
  have n6 := h.c.n6
  have hl : (owners c s).length = 1 := by
    rcases owners_cases c h.c s h.s with ⟨_, e⟩ | ⟨h2, _⟩ | ⟨h2, _⟩
    · rw [e]; rfl
    · omega
    · omega
  have I := inv_run (f := f) (r := r) (st := st) (dv := dv) h _ (Nat.le_refl _)
  unfold endG
  rw [way_len _ _ _ h.own]
  have hs : 0 < m → (runG c f r s d sends st dv (wayR c.N (owners c s) d) (c.N.toNat - (owners c s).length)).1 ((spOf c f r s d sends st dv).nd m).toNat = (spOf c f r s d sends st dv).sd (m - 1) := fun q => I.sd m q (by omega)
  refine ⟨I.out m (by omega), ?_, hs⟩
  rcases Nat.eq_zero_or_pos m with q | q
  · subst q; rw [show ((0 : Nat) : Int) = 0 from rfl, I.own]
  · rw [hs q, Sp.sd_F]; omega

/-- A pair's slot: of the node so many steps on, of the other owner. -/
theorem end_pair {c : Cf} {f : Fa} {r s d : Int} {sends : List (List UInt8)} {st dv : List Int} (h : CallOk c s d sends) (h1 : c.N ≤ s) :
    (∀ m : Nat, (m : Int) + 1 < c.N → (endG c f r s d sends st dv ((spOf c f r s d sends st dv).nd m).toNat).O = (spOf c f r s d sends st dv).o m ∧ (0 < m → endG c f r s d sends st dv ((spOf c f r s d sends st dv).nd m).toNat = (spOf c f r s d sends st dv).sd (m - 1))) := by
  have n6 := h.c.n6
  have hl : (owners c s).length = 2 := by
    rcases owners_cases c h.c s h.s with ⟨h2, _⟩ | ⟨_, a, _, _, e⟩ | ⟨_, e⟩
    · omega
    · rw [e]; rfl
    · exact absurd e h.own
  have I := inv_run (f := f) (r := r) (st := st) (dv := dv) h _ (Nat.le_refl _)
  unfold endG
  rw [way_len _ _ _ h.own]
  intro m hm
  exact ⟨I.out m (by omega), fun q => I.sd m q (by omega)⟩

end Go.Proofs.YthhmedlefahccaaGreatDoor
/-
  Contracts of package spread, last part: Run.
-/
namespace Go.Proofs.YthhmedlefahccaaGreatDoor
open Go.RowKit Plait
set_option maxRecDepth 100000
set_option linter.unusedVariables false
set_option linter.unusedSimpArgs false

theorem make_sides9 (n : Nat) (hn : n ≤ 1000000) : ∃ M : Array Value, SdM M n (fun _ => zeroSd) ∧ ∀ W : World, (Instr.makeSlice 40 (.int .i64 (n : Int)) (.int .i64 (n : Int))).run Tryz.prog W = .ok (.slice (some ⟨W.heap.size, 0, none⟩) n n) (W.alloc (.cells M 53)) := by
  obtain ⟨i0, hi, hz0, hz1, hz2⟩ := info_parts (show (Tryz.prog.info? 53).map (fun i => (i.zero, i.size, i.bytes)) = some (some (.agg #[.string ⟨#[]⟩, .string ⟨#[]⟩, .string ⟨#[]⟩, .int .i64 0]), 4, 56) by kernel_rfl)
  refine ⟨madeCells (Value.agg #[.string ⟨#[]⟩, .string ⟨#[]⟩, .string ⟨#[]⟩, .int .i64 0]).cells (((n : Nat) : Int).toNat * i0.size), ⟨?_, fun i hi => ?_⟩, fun W => ?_⟩
  · rw [size_madeCells, hz1]; simp
  · rw [hz1]
    have e : ((n : Nat) : Int).toNat = n := by simp
    rw [e]
    have hm : ∀ j, j < n * 4 → (madeCells (Value.agg #[.string ⟨#[]⟩, .string ⟨#[]⟩, .string ⟨#[]⟩, .int .i64 0]).cells (n * 4))[j]? = some ((#[Value.string ⟨#[]⟩, .string ⟨#[]⟩, .string ⟨#[]⟩, .int .i64 0] : Array Value)[j % 4]!) := by
      intro j hj
      exact (made_cell _ _ _ hj).trans rfl
    refine ⟨?_, ?_, ?_, ?_⟩
    · rw [hm _ (by omega), show i * 4 % 4 = 0 by omega]; rfl
    · rw [hm _ (by omega), show (i * 4 + 1) % 4 = 1 by omega]; rfl
    · rw [hm _ (by omega), show (i * 4 + 2) % 4 = 2 by omega]; rfl
    · rw [hm _ (by omega), show (i * 4 + 3) % 4 = 3 by omega]; rfl
  · have h := run_make (P := Tryz.prog) W 40 53 i0 _ Tryz.underlying40 hi hz0 .i64 .i64 (n : Int) (n : Int) (by omega) (by omega) (by rw [hz2]; omega) (by omega)
    simpa using h

theorem iniG_zero (os : List Int) (sends : List (List UInt8)) : ∀ k i, ((iniG os sends k).1 i).D = [] ∧ ((iniG os sends k).1 i).S = [] ∧ ((iniG os sends k).1 i).F = 0
  | 0, i => ⟨rfl, rfl, rfl⟩
  | k + 1, i => by
    have ih := iniG_zero os sends k
    show ((updN (iniG os sends k).1 (os.getD k 0).toNat { (iniG os sends k).1 (os.getD k 0).toNat with O := sends.getD k [] }) i).D = [] ∧ ((updN (iniG os sends k).1 (os.getD k 0).toNat { (iniG os sends k).1 (os.getD k 0).toNat with O := sends.getD k [] }) i).S = [] ∧ ((updN (iniG os sends k).1 (os.getD k 0).toNat { (iniG os sends k).1 (os.getD k 0).toNat with O := sends.getD k [] }) i).F = 0
    by_cases e : i = (os.getD k 0).toNat
    · subst e
      rw [updN_same]
      exact ih _
    · rw [updN_other _ _ _ _ e]
      exact ih i

theorem iniG_next (os : List Int) (sends : List (List UInt8)) (k j : Nat) (hk : k < os.length) (hj : os[k] = j) :
    iniG os sends (k + 1) = (updN (iniG os sends k).1 j ⟨[], [], sends.getD k [], 0⟩, updN (iniG os sends k).2 j true) := by
  have e1 : os.getD k 0 = j := by rw [List.getD_eq_getElem?_getD, List.getElem?_eq_getElem hk, ← hj]; rfl
  show (updN (iniG os sends k).1 (os.getD k 0).toNat { (iniG os sends k).1 (os.getD k 0).toNat with O := sends.getD k [] }, updN (iniG os sends k).2 (os.getD k 0).toNat true) = _
  obtain ⟨z1, z2, z3⟩ := iniG_zero os sends k j
  rw [e1, Int.toNat_natCast]
  dsimp only
  rw [z1, z2, z3]

/-- A slot's owners are as a ring's may be. -/
theorem way_same (c : Cf) (hc : c.Ok) (s d : Int) (s0 : 0 ≤ s) (hd : d = 1 ∨ d = -1) : wayI c.N (owners c s) d = wayR c.N (owners c s) d := by
  have n6 := hc.n6; have n12 := hc.n12
  rcases owners_cases c hc s s0 with ⟨h1, e⟩ | ⟨h1, a, a0, a1, e⟩ | ⟨h1, e⟩
  · exact wayI_wayR _ _ _ n6 n12 ⟨s, s0, h1, .inl e⟩ hd
  · exact wayI_wayR _ _ _ n6 n12 ⟨a, a0, a1, .inr e⟩ hd
  · rw [e]; rfl

theorem Row.apart2 {w : World} {a : Option Addr} {zs : List Int} {n : Nat} (h : Row w a zs) (hn : ∀ x, a = some x → n ≤ x.block) (b1 b2 : Nat) (h1 : b1 < n) (h2 : b2 < n) : Apart a zs b1 b2 := by
  rcases h.2.2 with e | ⟨b, off, e, hlt, _⟩
  · exact .inl e
  · have := hn _ e
    have h3 : n ≤ b := this
    exact .inr ⟨b, off, e, by omega, by omega⟩

theorem gWay_none (n : Int) (O : Option Addr) (oc : Nat) (d : Int) (w : World) :
    Calls Tryz.prog 60 #[.int .i64 n, .slice O 0 oc, .int .i64 d] w (RowRet (wayI n [] d) w) := by
  go_enter Tryz.func60, Tryz.ntmps60
  go_wp2
  go_ret
  exact ⟨none, 0, rfl, Row.empty _ _, (fun x h => by cases h), Below.refl _ _⟩

theorem gWay_all (n : Int) (O : Option Addr) (os : List Int) (oc : Nat) (d : Int) (w : World) (h1 : 0 < n) (h2 : n ≤ 12) (hd : d = 1 ∨ d = -1) (ho : Row w O os) (hos : ∀ z ∈ os, 0 ≤ z ∧ z < n) :
    Calls Tryz.prog 60 #[.int .i64 n, .slice O os.length oc, .int .i64 d] w (RowRet (wayI n os d) w) := by
  rcases Nat.eq_zero_or_pos os.length with h0 | h0
  · obtain rfl := List.eq_nil_of_length_eq_zero h0
    exact gWay_none n O oc d w
  · refine gWay_any n O os oc d w h1 h2 hd ho (fun x hx => ?_) hos
    obtain ⟨b, off, e, hb, _⟩ := ho.get 0 h0
    rw [hx] at e
    injection e with e
    rw [e]
    exact hb

theorem wayR_none (n : Int) (d : Int) : wayR n [] d = [] := rfl

/-- The loops. -/
def Ini9 (y : Wv) (w : World) (oa : Option Addr) (os : List Int) (sends : List (List UInt8)) (i : Value) (W : World) : Prop :=
  ∃ k : Nat, k ≤ os.length ∧ i = .int .i64 k ∧ WvM y w (iniG os sends k) W ∧ Row W oa os ∧ Apart oa os y.bo y.bw ∧ Blk W w.heap.size 24 (confBox y.c y.ca y.cc)
theorem Blk.two {w w' : World} {g : Nat} {t : TypeId} {cs : Array Value} {b1 b2 : Nat} (h : Blk w g t cs) (h1 : g ≠ b1) (h2 : g ≠ b2) (ht : Two b1 b2 w w') : Blk w' g t cs := (ht.2 g h.lt h1 h2).trans h
def Way9 (y : Wv) (w : World) (sends : List (List UInt8)) (wa : Option Addr) (way : List Int) (i : Value) (W : World) : Prop :=
  ∃ k : Nat, k ≤ way.length ∧ i = .int .i64 k ∧ WvM y w (runG y.c y.f y.r y.s y.d sends y.st y.dv way k) W ∧ Row W wa way ∧ Apart wa way y.bo y.bw ∧ ∀ i, ((runG y.c y.f y.r y.s y.d sends y.st y.dv way k).1 i).O.length ≤ 2000

theorem side_pass (y : Wv) (G : (Nat → Sd) × (Nat → Bool)) (k j nr fr : Nat) (hnr : ((j : Int) - y.d) % y.c.N = nr) (hfr : ((j : Int) - 2 * y.d) % y.c.N = fr) (hk : G.2 nr = true) :
    sideG y.c y.f y.r y.s y.d y.st y.dv k (j : Int) G = passL y G k j nr fr := by
  refine sideG_eq y.c y.f y.r y.s y.d y.st y.dv k j nr fr G hnr hfr (openL y G j nr) _ _ _ _ ?_ ?_ ?_ ?_ rfl
  · unfold openL; rw [hk]; rfl
  · rfl
  · rfl
  · rfl

theorem pass_len (y : Wv) (w : World) (ok : y.Ok w) (G : (Nat → Sd) × (Nat → Bool)) (hG : ∀ i, (G.1 i).O.length ≤ 2000) (k j nr fr : Nat) : (passL y G k j nr fr).O.length ≤ 2000 := by
  have := openL_len y w ok G hG j nr
  have l1 : (inD y G k j nr).length ≤ 2000 := by
    unfold inD guardL
    split
    · split
      · exact this
      · simp
    · exact this
  show (if y.st.getD j 0 = 0 then [] else outL _ _ _ : List UInt8).length ≤ 2000
  split
  · simp
  · exact Nat.le_trans (outL_len _ _ _) l1

set_option maxHeartbeats 6400000 in
theorem wRun_any (c : Cf) (ca : Option Addr) (cc : Nat) (f : Fa) (fa : Option Addr) (fac : Nat) (fd : Option Addr) (fdc : Nat) (r s d : Int) (sa : Option Addr) (sends : List (List UInt8)) (sc : Nat) (ta : Option Addr) (st : List Int) (tc : Nat) (va : Option Addr) (dv : List Int) (vc : Nat) (w : World) (hbd : Bnds w)
    (hc : c.Ok) (hP : Row w ca c.P) (hA : RowA w fa f.A) (hlA : f.A.length ≤ 1000000) (ht : ∀ x ∈ f.A, x.T.length ≤ 2000) (r0 : 0 ≤ r) (r1 : r ≤ 1000000) (s0 : 0 ≤ s) (s1 : s < slotsI c) (hd : d = 1 ∨ d = -1)
    (hS : RowS w sa sends) (hsl : sends.length = (owners c s).length) (hsb : ∀ l ∈ sends, l.length ≤ 2000) (hcl : ∀ l ∈ sends, clean l = l) (hT : Row w ta st) (htl : (st.length : Int) = c.N) (hV : Row w va dv) (hvl : (dv.length : Int) = c.N) :
    Calls Tryz.prog 39 #[.agg #[.int .i64 c.N, .int .i64 c.Pi, .int .i64 c.E, .int .i64 c.G, .int .i64 c.F, .slice ca c.P.length cc], .agg #[.int .i64 f.K, .int .i64 f.At, .int .i64 f.F, .int .i64 f.To, .slice fa f.A.length fac, .slice fd f.D.length fdc], .int .i64 r, .int .i64 s, .int .i64 d, .slice sa sends.length sc, .slice ta st.length tc, .slice va dv.length vc] w
      (SideRet 53 c.N.toNat (runG c f r s d sends st dv (wayR c.N (owners c s) d) (wayR c.N (owners c s) d).length).1 w) := by
  have n6 := hc.n6; have n12 := hc.n12
  obtain ⟨n, hn⟩ : ∃ n : Nat, c.N = n := ⟨c.N.toNat, by omega⟩
  obtain ⟨M0, hM0, mk0⟩ := make_sides9 n (by omega)
  rw [← hn] at mk0
  have hnn : c.N.toNat = n := by omega
  rw [hnn]
  have hB0 : Below w.heap.size w ((w.alloc (.cells #[.int .i64 c.N, .int .i64 c.Pi, .int .i64 c.E, .int .i64 c.G, .int .i64 c.F, .slice ca c.P.length cc] 24)).alloc (.cells #[.int .i64 f.K, .int .i64 f.At, .int .i64 f.F, .int .i64 f.To, .slice fa f.A.length fac, .slice fd f.D.length fdc] 27)) := (alloc_below w _).alloc (by simp) _
  have hC : Blk ((w.alloc (.cells #[.int .i64 c.N, .int .i64 c.Pi, .int .i64 c.E, .int .i64 c.G, .int .i64 c.F, .slice ca c.P.length cc] 24)).alloc (.cells #[.int .i64 f.K, .int .i64 f.At, .int .i64 f.F, .int .i64 f.To, .slice fa f.A.length fac, .slice fd f.D.length fdc] 27)) w.heap.size 24 (confBox c ca cc) := (Blk.new w _ _).alloc _
  have hF : Blk ((w.alloc (.cells #[.int .i64 c.N, .int .i64 c.Pi, .int .i64 c.E, .int .i64 c.G, .int .i64 c.F, .slice ca c.P.length cc] 24)).alloc (.cells #[.int .i64 f.K, .int .i64 f.At, .int .i64 f.F, .int .i64 f.To, .slice fa f.A.length fac, .slice fd f.D.length fdc] 27)) (w.heap.size + 1) 27 (faBox f fa fac fd fdc) := Blk.newAt _ _ (by simp)
  have HM0 := Lib.hid hM0
  have HN := Lib.hid hn
  have n6' : 6 ≤ n := by omega
  have n12' : n ≤ 12 := by omega
  have hck := hc.check
  have HK := Lib.hid (fun W hb hr => ccheck_any c ca cc W hb hr)
  rw [hck] at HK
  have HO := Lib.hid (fun W (h : Row W ca c.P) => cowners_any c ca cc s W hc (by unfold inI; have := slots_15 hc; omega) h)
  have HSL := Lib.hid hsl
  have HTL := Lib.hid htl
  have HVL := Lib.hid hvl
  clear hM0 hn hnn hck hsl htl hvl
  go_enter Tryz.func39, Tryz.ntmps39
  go_upto_region 1 with fail
  generalize ((w.alloc (.cells #[.int .i64 c.N, .int .i64 c.Pi, .int .i64 c.E, .int .i64 c.G, .int .i64 c.F, .slice ca c.P.length cc] 24)).alloc (.cells #[.int .i64 f.K, .int .i64 f.At, .int .i64 f.F, .int .i64 f.To, .slice fa f.A.length fac, .slice fd f.D.length fdc] 27)) = w1 at *
  have hq := hC.at
  unfold confBox at hq
  go_wp2_with fail
  refine (HK.out _ (hbd.later hB0) (hP.later hB0)).mono ?_
  rintro e w2 ⟨rfl, hb⟩
  replace hB0 := hB0.trans (hb.mono hB0.size)
  replace hC := hC.later hb
  replace hF := hF.later hb
  clear hb hq HK
  go_wp2_with fail
  refine (wisDir_any d _ hd).mono ?_
  rintro e wl ⟨rfl, rfl⟩
  go_upto_region 3 with fail
  have hq := hC.at
  unfold confBox at hq
  have hq2 := hF.at
  unfold faBox at hq2
  have hq3 := (hC.alloc (.cells M0 53)).at
  unfold confBox at hq3
  have hq4 := (hF.alloc (.cells M0 53)).at
  unfold faBox at hq4
  go_region
  clear hq hq2 hq3 hq4 mk0
  have hb1 := alloc_below w2 (.cells M0 53)
  have hO0 := Blk.new w2 53 M0
  obtain ⟨X, hX⟩ : ∃ X : Array Value, X = #[.int .i64 c.N, .int .i64 c.Pi, .int .i64 c.E, .int .i64 c.G, .int .i64 c.F, .slice ca c.P.length cc, .int .i64 f.K, .int .i64 f.At, .int .i64 f.F, .int .i64 f.To, .slice fa f.A.length fac, .slice fd f.D.length fdc, .int .i64 r, .int .i64 s, .int .i64 d, .slice ta st.length tc, .slice va dv.length vc, .slice (some ⟨w2.heap.size, 0, none⟩) n n, .bool false, .bool false, .bool false, .bool false, .bool false, .bool false, .bool false, .bool false, .bool false, .bool false, .bool false, .bool false] := ⟨_, rfl⟩
  rw [← hX]
  have hb2 := alloc_below (w2.alloc (.cells M0 53)) (.cells X 96)
  have hW0 : Blk ((w2.alloc (.cells M0 53)).alloc (.cells X 96)) (w2.heap.size + 1) 96 X := Blk.newAt _ _ (by simp)
  have hB1 := hB0.trans (hb1.mono hB0.size)
  have hB := (hB1.trans (hb2.mono hB1.size)).drew
  replace hO0 := (hO0.later hb2).drew1
  replace hW0 := hW0.drew1
  have hbo : w.heap.size < w2.heap.size := hC.lt
  have hlw := hW0.lt
  replace hC := ((hC.later hb1).later hb2).drew1
  clear hb1 hb2 hB1 hB0 hF
  generalize ((w2.alloc (.cells M0 53)).alloc (.cells X 96)).drew = w3 at *
  generalize hbw : w2.heap.size + 1 = bw at *
  generalize w2.heap.size = bo at *
  have hM : WvM (⟨c, ca, cc, f, fa, fac, fd, fdc, r, s, d, ta, st, tc, va, dv, vc, bw, bo, n⟩ : Wv) w (iniG (owners c s) sends 0) w3 :=
    ⟨hB, by show w.heap.size ≤ bw; omega, by show w.heap.size ≤ bo; omega, by show bo ≠ bw; omega, by subst hX; exact hW0, ⟨M0, hO0, HM0.out⟩⟩
  have hbo2 : bo < bw := by omega
  have ok : ((⟨c, ca, cc, f, fa, fac, fd, fdc, r, s, d, ta, st, tc, va, dv, vc, bw, bo, n⟩ : Wv)).Ok w := ⟨hc, HN.out, n12', hA, hlA, ht, r0, r1, s0, s1, hd, hT, by have := HTL.out; have := HN.out; show st.length = n; omega, hV, by have := HVL.out; have := HN.out; show dv.length = n; omega⟩
  clear hW0 hO0 hX hbw HM0
  have hq := hC.at
  unfold confBox at hq
  go_wp2_with fail
  refine (HO.out _ (hP.later hB)).mono ?_
  rintro e w4 ⟨oa, oc, rfl, hrow, hof, hb⟩
  replace hM := hM.later hb
  replace hC := hC.later hb
  have hap := hrow.apart2 hof bo bw (by omega) hlw
  have hos := owners_in c hc s
  have hol := owners_len c s
  have HWY := Lib.hid (way_same c hc s d s0 hd)
  clear hb hq hB hof HO
  obtain ⟨os, hose⟩ : ∃ os, owners c s = os := ⟨_, rfl⟩
  rw [hose] at hM hrow hap hos hol
  have HE := Lib.hid hose
  rw [hose]
  clear hose
  go_wp2
  go_loopw [48] (fun i W => Ini9 (⟨c, ca, cc, f, fa, fac, fd, fdc, r, s, d, ta, st, tc, va, dv, vc, bw, bo, n⟩ : Wv) w oa os sends i W) (fun i _ => os.length - (intOf i).toNat)
  case atStart => exact ⟨0, Nat.zero_le _, rfl, hM, hrow, hap, hC⟩
  case round =>
    clear hM hrow hap hC
    obtain ⟨k, hk, rfl, hM, hrow, hap, hC⟩ := hrel
    by_cases hlt : k < os.length
    · have d1 : decide (k < os.length) = true := by simpa using hlt
      obtain ⟨z0, z1⟩ := hos os[k] (List.getElem_mem hlt)
      obtain ⟨j, hj⟩ : ∃ j : Nat, os[k] = j := ⟨os[k].toNat, by omega⟩
      have hjn : j < n := by have := HN.out; omega
      have HNX := Lib.hid (iniG_next os sends k j hlt hj)
      obtain ⟨ob, off, rfl, hob, hcell, _, _⟩ := hrow.get k hlt
      rw [hj] at hcell
      have hk2 : k < sends.length := by rw [HSL.out, HE.out]; exact hlt
      have HAS := Lib.hid (watS_any sa sends sc k wr (hS.later hM.hB) hk2)
      have hl2 : (sends.getD k []).length ≤ 2000 := by
        rw [List.getD_eq_getElem?_getD, List.getElem?_eq_getElem hk2]
        exact hsb _ (List.getElem_mem hk2)
      have hkb : k ≤ 2 := by omega
      clear hj z0 z1 hk2
      generalize sends.getD k [] = S at *
      generalize iniG os sends k = G at *
      go_wp2_with fail
      refine (HAS.out).mono ?_
      rintro e wl ⟨rfl, rfl⟩
      go_wp2_with fail
      refine (clone_any ⟨S.toArray⟩ _ (by rw [size_mk]; omega)).mono ?_
      rintro e w5 ⟨rfl, hb⟩
      have hrow2 := hrow.later hb
      go_wp2_with fail
      refine (wreach_any (⟨c, ca, cc, f, fa, fac, fd, fdc, r, s, d, ta, st, tc, va, dv, vc, bw, bo, n⟩ : Wv) w G _ (hM.later hb) j hjn n12' ⟨[], [], S, 0⟩).mono ?_
      rintro e w6 ⟨rfl, hM6, ht6⟩
      have hrow6 := hrow2.two hap ht6
      have hC6 := (hC.later hb).two (by show w.heap.size ≠ bo; omega) (by show w.heap.size ≠ bw; omega) ht6
      go_wp2
      go_roundw
      case rel => exact ⟨k + 1, by omega, by go_num, by rw [HNX.out]; exact hM6, hrow6, hap, hC6⟩
      case measure => simp [intOf]; omega
    · have d1 : decide (k < os.length) = false := by simpa using hlt
      have hke : k = os.length := by omega
      subst hke
      have hq := hC.at
      unfold confBox at hq
      dsimp only at hq
      go_wp2_with fail
      refine (gWay_all c.N oa os oc d _ (by omega) n12 hd hrow hos).mono ?_
      rintro e w5 ⟨wa, wc, rfl, hway, hwf, hb⟩
      have hWl : bw < wr.heap.size := hM.wv.lt
      have hap5 := hway.apart2 hwf bo bw (by omega) hWl
      replace hM := hM.later hb
      have hwe : wayI c.N os d = wayR c.N os d := by rw [← HE.out]; exact HWY.out
      rw [hwe] at hway hap5 ⊢
      have HWE := Lib.hid (show wayR c.N (owners c s) d = wayR c.N os d by rw [HE.out])
      obtain ⟨hwi, hwl⟩ := wayR_in c.N os d (by omega) n12
      have hG0 : runG c f r s d sends st dv (wayR c.N os d) 0 = iniG os sends os.length := by
        show iniG (owners c s) sends (owners c s).length = _
        rw [HE.out]
      have hGl := iniG_len os sends hsb os.length
      rw [← hG0] at hM hGl
      have HNK := Lib.hid (show ∀ k : Nat, k < (wayR c.N os d).length → (runG c f r s d sends st dv (wayR c.N os d) k).2 (((wayR c.N os d).getD k 0 - d) % c.N).toNat = true by
        intro k hk
        by_cases h0 : os = []
        · rw [h0, wayR_none] at hk; simp at hk
        · rw [way_len _ _ _ h0] at hk
          have := near_known (f := f) (r := r) (st := st) (dv := dv) (sends := sends) (s := s) (d := d) (c := c) ⟨hc, hd, s0, by rw [HE.out]; exact h0, HSL.out, hcl⟩ k (by rw [HE.out]; exact hk)
          rw [HE.out] at this
          exact this)
      have HRN := Lib.hid (show ∀ (k j : Nat), (wayR c.N os d).getD k 0 = j → runG c f r s d sends st dv (wayR c.N os d) (k + 1) = (updN (runG c f r s d sends st dv (wayR c.N os d) k).1 j (sideG c f r s d st dv k (j : Int) (runG c f r s d sends st dv (wayR c.N os d) k)), updN (runG c f r s d sends st dv (wayR c.N os d) k).2 j true) by
        intro k j h
        show (updN (runG c f r s d sends st dv (wayR c.N os d) k).1 ((wayR c.N os d).getD k 0).toNat (sideG c f r s d st dv k ((wayR c.N os d).getD k 0) (runG c f r s d sends st dv (wayR c.N os d) k)), updN (runG c f r s d sends st dv (wayR c.N os d) k).2 ((wayR c.N os d).getD k 0).toNat true) = _
        rw [h, Int.toNat_natCast])
      clear hq hrow hap hb hwf hos hol HSL HE hG0 hWl hwe hC HWY
      generalize wayR c.N os d = way at *
      go_wp2
      go_loopw [68] (fun i W => Way9 (⟨c, ca, cc, f, fa, fac, fd, fdc, r, s, d, ta, st, tc, va, dv, vc, bw, bo, n⟩ : Wv) w sends wa way i W) (fun i _ => way.length - (intOf i).toNat)
      case atStart => exact ⟨0, Nat.zero_le _, rfl, hM, hway, hap5, hGl⟩
      case round =>
        clear hM hway hap5 hGl
        obtain ⟨k, hk, rfl, hM, hway, hap, hGl⟩ := hrel
        by_cases hlt : k < way.length
        · have d1 : decide (k < way.length) = true := by simpa using hlt
          obtain ⟨z0, z1⟩ := hwi way[k] (List.getElem_mem hlt)
          obtain ⟨j, hj⟩ : ∃ j : Nat, way[k] = j := ⟨way[k].toNat, by omega⟩
          have hjn : j < n := by have := HN.out; omega
          have hje : way.getD k 0 = j := by rw [List.getD_eq_getElem?_getD, List.getElem?_eq_getElem hlt, ← hj]; rfl
          have HNX := Lib.hid (HRN.out k j hje)
          have hkn := HNK.out k hlt
          rw [hje] at hkn
          obtain ⟨nr, hnr⟩ : ∃ nr : Nat, ((j : Int) - d) % c.N = nr := ⟨(((j : Int) - d) % c.N).toNat, by have := Int.emod_nonneg ((j : Int) - d) (show c.N ≠ 0 by omega); omega⟩
          obtain ⟨fr, hfr⟩ : ∃ fr : Nat, ((j : Int) - 2 * d) % c.N = fr := ⟨(((j : Int) - 2 * d) % c.N).toNat, by have := Int.emod_nonneg ((j : Int) - 2 * d) (show c.N ≠ 0 by omega); omega⟩
          rw [hnr, Int.toNat_natCast] at hkn
          obtain ⟨b, off, rfl, hb0, hcell, _, _⟩ := hway.get k hlt
          rw [hj] at hcell
          have hk12 : k < 12 := by omega
          have k1 : IntKind.i64.wrap (1 + (k : Int)) = (k : Int) + 1 := by rw [Int.add_comm]; exact wrap_in _ (by omega) (by omega)
          generalize runG c f r s d sends st dv way k = G at *
          have HSG := Lib.hid (side_pass (⟨c, ca, cc, f, fa, fac, fd, fdc, r, s, d, ta, st, tc, va, dv, vc, bw, bo, n⟩ : Wv) G k j nr fr hnr hfr hkn)
          have HPL := Lib.hid (pass_len (⟨c, ca, cc, f, fa, fac, fd, fdc, r, s, d, ta, st, tc, va, dv, vc, bw, bo, n⟩ : Wv) w ok G hGl k j nr fr)
          have HPS := Lib.hid (fun W h => wpassed_any (⟨c, ca, cc, f, fa, fac, fd, fdc, r, s, d, ta, st, tc, va, dv, vc, bw, bo, n⟩ : Wv) w ok G W h hGl j hjn k hk12 nr fr hnr hfr)
          clear hnr hfr hkn hj hje z0 z1
          generalize passL (⟨c, ca, cc, f, fa, fac, fd, fdc, r, s, d, ta, st, tc, va, dv, vc, bw, bo, n⟩ : Wv) G k j nr fr = v at *
          go_wp2_with fail
          refine (HPS.out _ hM).mono ?_
          rintro e w6 ⟨rfl, hb⟩
          have hway2 := hway.later hb
          go_wp2_with fail
          refine (wreach_any (⟨c, ca, cc, f, fa, fac, fd, fdc, r, s, d, ta, st, tc, va, dv, vc, bw, bo, n⟩ : Wv) w G _ (hM.later hb) j hjn n12' v).mono ?_
          rintro e w7 ⟨rfl, hM7, ht7⟩
          have hway7 := hway2.two hap ht7
          go_wp2
          go_roundw
          case rel =>
            refine ⟨k + 1, by omega, by go_num, ?_, hway7, hap, ?_⟩
            · show WvM _ w (runG c f r s d sends st dv way (k + 1)) _
              rw [HNX.out]
              have := HSG.out
              rw [this]
              exact hM7
            · intro i
              show ((runG c f r s d sends st dv way (k + 1)).1 i).O.length ≤ 2000
              rw [HNX.out]
              have := HSG.out
              rw [this]
              exact updO_len hGl HPL.out i
          case measure => simp [intOf]; omega
        · have d1 : decide (k < way.length) = false := by simpa using hlt
          have hke : k = way.length := by omega
          subst hke
          have hq := hM.wv.at
          unfold Wv.box at hq
          dsimp only at hq
          obtain ⟨M, q1, q2⟩ := hM.o
          have hB := hM.hB
          go_wp2
          go_ret
          exact ⟨bo, M, rfl, by omega, q1, by rw [HWE.out]; exact q2, hB⟩

end Go.Proofs.YthhmedlefahccaaGreatDoor
