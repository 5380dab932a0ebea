/-
  Contracts of package arb, last part: Pick.
-/
import Derived.Test.YtkflijbhlibadabDoorK12
import Derived.Test.YtkflijbhlibadabDoorK2
import Derived.Test.YtkflijbhlibadabDoorK9
namespace Go.Proofs.YtkflijbhlibadabDoor
open Go.RowKit Plait
set_option maxRecDepth 100000
set_option linter.unusedVariables false
set_option linter.unusedSimpArgs false

theorem rights_step (c : Cf) (r s : Int) (l : List Cp) (p : Cp) : rightsOf c r s (l ++ [p]) = rightsOf c r s l ++ if (rightA c r s p.text).2 = true then [p] else [] := by
  unfold rightsOf
  rw [List.filter_append]
  congr 1
  simp only [List.filter_cons, List.filter_nil]
theorem cps_text (c : Cf) (s : Int) (a b : Sd) (n : Nat) (h1 : a.D.length ≤ n) (h2 : a.O.length ≤ n) (h3 : b.D.length ≤ n) (h4 : b.O.length ≤ n) : ∀ p ∈ cpsOf c s a b, p.text.length ≤ n := by
  have one : ∀ x : Sd, x.D.length ≤ n → x.O.length ≤ n → ∀ p ∈ cpOf c s x, p.text.length ≤ n := by
    intro x g1 g2 p hp
    unfold cpOf at hp
    split at hp
    · obtain rfl := List.mem_singleton.1 hp; exact g2
    · split at hp
      · obtain rfl := List.mem_singleton.1 hp; exact g1
      · cases hp
  intro p hp
  unfold cpsOf at hp
  rcases List.mem_append.1 hp with h | h
  · exact one a h1 h2 p h
  · exact one b h3 h4 p h
theorem cps_len (c : Cf) (s : Int) (a b : Sd) : (cpsOf c s a b).length ≤ 2 := by
  have one : ∀ x : Sd, (cpOf c s x).length ≤ 1 := by
    intro x; unfold cpOf; split
    · simp
    · split <;> simp
  unfold cpsOf
  have := one a; have := one b
  rw [List.length_append]; omega
theorem chosen_len (n : Nat) (l : List Cp) (h : ∀ p ∈ l, p.text.length ≤ n) : (chosenL l).length ≤ n := by
  unfold chosenL
  have hm : ∀ p ∈ l.filter (·.b), p.text.length ≤ n := fun p hp => h p (List.mem_filter.1 hp).1
  split
  · split
    · simp
    · exact h _ (List.mem_cons_self ..)
  · rename_i p e; exact hm p (by rw [e]; simp)
  · rename_i p q t e
    split
    · exact hm p (by rw [e]; simp)
    · simp


/-- The last step: the frame is laid into the result's place. -/
theorem apick_end (f : Fr) (b : Bool) (w wr : World) (av : Option Addr) (cv : Nat) (old : Array Value) (h6 : old.size = 6) (hB : Below w.heap.size w wr) (k2 : Blk wr (w.heap.size + 1 + 1 + 1) 29 old) (hr : RowT wr av f.E) (hn : ∀ x, av = some x → w.heap.size + 1 + 1 + 1 < x.block) {p : Fr × Bool} (hp : p = (f, b)) {a : Act}
    (h4 : a.tmps[10]? = some (.pointer (some ⟨w.heap.size + 1 + 1 + 1, 0, none⟩)) := by rfl) (h5 : a.tmps[11]? = some (.bool b) := by rfl) (hd : a.defers = [] := by rfl) :
    bodyPost Tryd.prog Tryd.f21 (RightRet p w) Exit.ret a
      ((((((wr.setCell ⟨w.heap.size + 1 + 1 + 1, 0, none⟩ (.int .i64 f.K)).setCell ⟨w.heap.size + 1 + 1 + 1, 1, none⟩ (.int .i64 f.R)).setCell ⟨w.heap.size + 1 + 1 + 1, 2, none⟩ (.int .i64 f.S)).setCell
        ⟨w.heap.size + 1 + 1 + 1, 3, none⟩ (.int .i64 f.P.K)).setCell ⟨w.heap.size + 1 + 1 + 1, 4, none⟩ (.int .i64 f.P.V)).setCell ⟨w.heap.size + 1 + 1 + 1, 5, none⟩ (.slice av f.E.length cv)) := by
  subst hp
  have kk := blk_set6 k2 h6 (.int .i64 f.K) (.int .i64 f.R) (.int .i64 f.S) (.int .i64 f.P.K) (.int .i64 f.P.V) (.slice av f.E.length cv)
  have hb2 := below_set6 (g := w.heap.size + 1 + 1 + 1) hB (by omega) (.int .i64 f.K) (.int .i64 f.R) (.int .i64 f.S) (.int .i64 f.P.K) (.int .i64 f.P.V) (.slice av f.E.length cv)
  have ho := right_far (w := w) (cv := cv) hr (.inr fun x hx => by have := hn x hx; omega) (g := w.heap.size + 1 + 1 + 1) (.int .i64 f.K) (.int .i64 f.R) (.int .i64 f.S) (.int .i64 f.P.K) (.int .i64 f.P.V) (.slice av f.E.length cv)
  generalize (((((wr.setCell _ _).setCell _ _).setCell _ _).setCell _ _).setCell _ _).setCell _ _ = W at *
  have q := kk.at
  simp at q
  refine bodyPost_ret (v := .tuple #[.agg #[.int .i64 f.K, .int .i64 f.R, .int .i64 f.S, .int .i64 f.P.K, .int .i64 f.P.V, .slice av f.E.length cv], .bool b]) (by simp [results, Tryd.results21, go_sem, h4, h5, q]) hd ⟨av, cv, rfl, ho, ?_, hb2⟩
  intro x hx
  have := hn x hx
  omega

theorem conf_cells {c : Cf} {ca : Option Addr} {cc : Nat} {W : World} {g : Nat} (h : Blk W g 24 (confBox c ca cc)) :
    W.cell? ⟨g, 0, none⟩ = some (.int .i64 c.N) ∧ W.cell? ⟨g, 1, none⟩ = some (.int .i64 c.Pi) ∧ W.cell? ⟨g, 2, none⟩ = some (.int .i64 c.E) ∧ W.cell? ⟨g, 3, none⟩ = some (.int .i64 c.G) ∧ W.cell? ⟨g, 4, none⟩ = some (.int .i64 c.F) ∧ W.cell? ⟨g, 5, none⟩ = some (.slice ca c.P.length cc) :=
  ⟨by rw [h.at]; rfl, by rw [h.at]; rfl, by rw [h.at]; rfl, by rw [h.at]; rfl, by rw [h.at]; rfl, by rw [h.at]; rfl⟩

/-- The loop over the copies: those that are Right. -/
def PiAt (c : Cf) (ca : Option Addr) (cc : Nat) (r s : Int) (a b : Sd) (ps : List Cp) (base : Nat) (w w2 : World) (v i : Value) (W : World) : Prop :=
  ∃ k : Nat, k ≤ ps.length ∧ i = .int .i64 k ∧ PkM c ca cc 45 a b w W ∧ Below w2.heap.size w2 W ∧ OwnV base W v (rightsOf c r s (ps.take k))

attribute [local irreducible] World.alloc World.drew World.setCell

set_option maxHeartbeats 1600000 in
theorem aPick_any (c : Cf) (ca : Option Addr) (cc : Nat) (r s : Int) (a b : Sd) (w : World) (hbd : Bnds w) (hc : c.Ok) (hrow : Row w ca c.P) (h0 : 0 ≤ r) (h1r : r ≤ 1073741824) (la : a.O.length ≤ 1048576) (lb2 : b.O.length ≤ 1048576) (la1 : a.D.length ≤ 1048576) (lb1 : b.D.length ≤ 1048576) :
    Calls Tryd.prog 21 #[.agg #[.int .i64 c.N, .int .i64 c.Pi, .int .i64 c.E, .int .i64 c.G, .int .i64 c.F, .slice ca c.P.length cc], .int .i64 r, .int .i64 s, .agg #[.string ⟨a.D.toArray⟩, .string ⟨a.S.toArray⟩, .string ⟨a.O.toArray⟩, .int .i64 a.F], .agg #[.string ⟨b.D.toArray⟩, .string ⟨b.S.toArray⟩, .string ⟨b.O.toArray⟩, .int .i64 b.F]] w (RightRet (takeA c r s a b) w) := by
  have hM : PkM c ca cc 45 a b w ((((w.alloc (.cells #[.int .i64 c.N, .int .i64 c.Pi, .int .i64 c.E, .int .i64 c.G, .int .i64 c.F, .slice ca c.P.length cc] 24)).alloc (.cells #[.string ⟨a.D.toArray⟩, .string ⟨a.S.toArray⟩, .string ⟨a.O.toArray⟩, .int .i64 a.F] 45)).alloc (.cells #[.string ⟨b.D.toArray⟩, .string ⟨b.S.toArray⟩, .string ⟨b.O.toArray⟩, .int .i64 b.F] 45)).alloc (.cells #[.int .i64 0, .int .i64 0, .int .i64 0, .int .i64 0, .int .i64 0, .slice none 0 0] 29)) :=
    ⟨(((alloc_below w _).alloc (by simp) _).alloc (by simp; omega) _).alloc (by simp; omega) _, (((Blk.new w _ _).alloc _).alloc _).alloc _, ((Blk.newAt _ _ (by simp)).alloc _).alloc _, (Blk.newAt _ _ (by simp)).alloc _, Blk.newAt _ _ (by simp)⟩
  have HPK := Lib.hid (pick_is c r s a b)
  have HTX := Lib.hid (cps_text c s a b 1048576 la1 la lb1 lb2)
  have hpl := cps_len c s a b
  have HCP := Lib.hid (fun W => acopies_any c ca cc s a b W)
  generalize cpsOf c s a b = ps at *
  generalize takeA c r s a b = A at *
  go_enter Tryd.func21, Tryd.ntmps21
  go_upto_region 1 with fail
  generalize ((((w.alloc (.cells #[.int .i64 c.N, .int .i64 c.Pi, .int .i64 c.E, .int .i64 c.G, .int .i64 c.F, .slice ca c.P.length cc] 24)).alloc (.cells #[.string ⟨a.D.toArray⟩, .string ⟨a.S.toArray⟩, .string ⟨a.O.toArray⟩, .int .i64 a.F] 45)).alloc (.cells #[.string ⟨b.D.toArray⟩, .string ⟨b.S.toArray⟩, .string ⟨b.O.toArray⟩, .int .i64 b.F] 45)).alloc (.cells #[.int .i64 0, .int .i64 0, .int .i64 0, .int .i64 0, .int .i64 0, .slice none 0 0] 29)) = w1 at *
  have hq := hM.hC.at
  unfold confBox at hq
  have hqa := hM.hA.at
  have hqd := hM.hD.at
  go_wp2_with fail
  refine (HCP.out _).mono ?_
  rintro e w2 ⟨v, rfl, hoP, hb⟩
  have hzl := hM.hZ.lt
  replace hM := hM.later hb
  clear hb hq hqa hqd HCP
  obtain ⟨pa, pc, rfl⟩ := hoP.form
  have hrP := hoP.row
  clear hoP
  have hz2 := hM.hZ.lt
  have HST := Lib.hid (show PiAt c ca cc r s a b ps w2.heap.size w w2 (.slice none 0 0) (.int .i64 (0 : Nat)) w2 from ⟨0, Nat.zero_le _, rfl, hM, Below.refl _ _, OwnV.nil _ _⟩)
  clear hM
  go_wp2
  go_loopw [12, 23] (fun v i W => PiAt c ca cc r s a b ps w2.heap.size w w2 v i W) (fun _ i _ => ps.length - (intOf i).toNat)
  case atStart => exact HST.out
  case round =>
    clear HST
    obtain ⟨k, hk, rfl, hM, hB2, hoV⟩ := hrel
    obtain ⟨av, cv, rfl⟩ := hoV.form
    by_cases hlt : k < ps.length
    · have d1 : decide (k < ps.length) = true := by simpa using hlt
      obtain ⟨rb, rfl, hrb, hrc⟩ := (hrP.later hB2).get k hlt
      have g0 : (0 : Int) ≤ (k : Int) := by omega
      have g1 : (k : Int) < (ps.length : Int) := by omega
      have HTK := Lib.hid (show rightsOf c r s (ps.take (k + 1)) = rightsOf c r s (ps.take k) ++ if (rightA c r s ps[k].text).2 = true then [ps[k]] else [] from by rw [List.take_succ_eq_append_getElem hlt, rights_step])
      have hpl2 : (rightsOf c r s (ps.take k)).length ≤ 1000000 := by
        have h1 : (rightsOf c r s (ps.take k)).length ≤ (ps.take k).length := List.length_filter_le _ _
        have h2 := List.length_take_le k ps
        omega
      have htl := HTX.out ps[k] (List.getElem_mem hlt)
      obtain ⟨p, hp⟩ : ∃ p, p = ps[k] := ⟨_, rfl⟩
      rw [← hp] at HTK hrc htl
      clear hp
      obtain ⟨b5, z⟩ := p
      have hqc := hM.hC.at
      unfold confBox at hqc
      have HRG := Lib.hid (fun (t : List UInt8) W h (h2 : Row W ca c.P) (h3 : t.length ≤ 1048576) => aRight_any c ca cc r s t W h hc h2 h0 h1r h3)
      cases b5
      · unfold ifV at hrc
        have HIV := Lib.hid (fun W => atextL_any z W)
        have htl2 : z.D.length ≤ 1048576 := htl
        have HTK2 := Lib.hid (show rightsOf c r s (ps.take (k + 1)) = rightsOf c r s (ps.take k) ++ if (rightA c r s z.D).2 = true then [⟨false, z⟩] else [] from HTK.out)
        clear HTK htl
        obtain ⟨t1, q1, htq⟩ : ∃ t1 q1, rightA c r s z.D = (t1, q1) := ⟨_, _, rfl⟩
        have HRG2 := Lib.hid (fun W h h2 => HRG.out z.D W h h2 htl2)
        rw [htq] at HRG2 HTK2
        clear htq HRG
        have hC := hM.hC
        have hBw := hM.hB
        go_upto_region 5 with fail
        refine region_slots [some 28, some 29, some 30, some 31, some 32, some 33, some 27, some 34, some 35, some 15, none, some 16] [none, none, none, none, none, none, none, none, none, none, some 9, none] 50 12 rfl (by kernel_rfl) (by kernel_rfl) rfl rfl ?_
        apply step_fix
        · intro a W Zs hS hFm hz hd
          have h5 := hFm.old 5 rfl
          conv at h5 => rhs; whnf
          replace h5 := ev_get hFm.size h5
          have hq := (hC.drew1.later hS).at
          unfold confBox at hq
          refine .inl ⟨wanted_none rfl _, fun K hK => ?_⟩
          have HK := Lib.hid hK
          clear hd hFm hK
          go_simp
          exact HK.out _ _ rfl (Below.refl _ _)
        simp only [List.nil_append, List.cons_append]
        apply step_fix
        · intro a W Zs hS hFm hz hd
          have h1 := hFm.old 1 rfl
          conv at h1 => rhs; whnf
          replace h1 := ev_get hFm.size h1
          refine .inl ⟨wanted_none rfl _, fun K hK => ?_⟩
          have HK := Lib.hid hK
          clear hd hFm hK
          go_simp
          exact HK.out _ _ rfl (Below.refl _ _)
        simp only [List.nil_append, List.cons_append]
        apply step_fix
        · intro a W Zs hS hFm hz hd
          have h2 := hFm.old 2 rfl
          conv at h2 => rhs; whnf
          replace h2 := ev_get hFm.size h2
          refine .inl ⟨wanted_none rfl _, fun K hK => ?_⟩
          have HK := Lib.hid hK
          clear hd hFm hK
          go_simp
          exact HK.out _ _ rfl (Below.refl _ _)
        simp only [List.nil_append, List.cons_append]
        apply step_fix
        · intro a W Zs hS hFm hz hd
          have h14 := hFm.old 14 rfl
          conv at h14 => rhs; whnf
          replace h14 := ev_get hFm.size h14
          refine .inl ⟨wanted_none rfl _, fun K hK => ?_⟩
          have HK := Lib.hid hK
          clear hd hFm hK
          go_simp
          exact HK.out _ _ rfl (Below.refl _ _)
        simp only [List.nil_append, List.cons_append]
        apply step_fix
        · intro a W Zs hS hFm hz hd
          have h31 := ev_get hFm.size (hd 3 31 rfl rfl)
          refine .inl ⟨wanted_none rfl _, fun K hK => ?_⟩
          have HK := Lib.hid hK
          clear hd hFm hK
          go_simp
          refine (HIV.out _).mono ?_
          rintro e W' ⟨rfl, hb⟩
          exact HK.out _ _ rfl hb
        simp only [List.nil_append, List.cons_append]
        refine step_of (rbF _ (t1) (q1)) (rbF_good _ _ _) ?_ ?_
        · intro a W Zs hS hFm hz hd
          have h28 := ev_get hFm.size (hd 0 28 rfl rfl)
          have h29 := ev_get hFm.size (hd 1 29 rfl rfl)
          have h30 := ev_get hFm.size (hd 2 30 rfl rfl)
          have h32 := ev_get hFm.size (hd 4 32 rfl rfl)
          refine .inl ⟨wanted_none rfl _, fun K hK => ?_⟩
          have HK := Lib.hid hK
          clear hd hFm hK
          go_simp
          refine (HRG2.out _ ((hbd.later hBw).later (from_drew hS)) ((hrow.later hBw).later (from_drew hS))).mono ?_
          rintro e W' ⟨ra, rc, rfl, hr, hfr, hb⟩
          exact HK.out _ _ ⟨ra, rc, rfl, hr, hr.foot hfr⟩ hb
        simp only [List.nil_append, List.cons_append]
        refine step_of (rbF _ (t1) (q1)) (rbF_good _ _ _) ?_ ?_
        · intro a W Zs hS hFm hz hd
          obtain ⟨a33, c33, e33, r33, f33⟩ := hd 5 33 rfl rfl
          have h33 := ev_get hFm.size e33
          refine .inl ⟨wanted_none rfl _, fun K hK => ?_⟩
          have HK := Lib.hid hK
          clear hd hFm hK
          go_simp
          exact HK.out _ _ ⟨a33, c33, rfl, r33, ft_mono f33 (foot_dep 5 rfl rfl rfl)⟩ (Below.refl _ _)
        simp only [List.nil_append, List.cons_append]
        refine step_of (frF _ (t1)) (frF_good _ _) ?_ ?_
        · intro a W Zs hS hFm hz hd
          obtain ⟨a27, c27, e27, r27, f27⟩ := hd 6 27 rfl rfl
          have h27 := ev_get hFm.size e27
          refine .inl ⟨wanted_none rfl _, fun K hK => ?_⟩
          have HK := Lib.hid hK
          clear hd hFm hK
          go_simp
          exact HK.out _ _ ⟨a27, c27, rfl, r27, ft_mono f27 (foot_dep 6 rfl rfl rfl)⟩ (Below.refl _ _)
        simp only [List.nil_append, List.cons_append]
        apply step_fix
        · intro a W Zs hS hFm hz hd
          obtain ⟨a27, c27, e27, r27, f27⟩ := hd 6 27 rfl rfl
          have h27 := ev_get hFm.size e27
          refine .inl ⟨wanted_none rfl _, fun K hK => ?_⟩
          have HK := Lib.hid hK
          clear hd hFm hK
          go_simp
          exact HK.out _ _ rfl (Below.refl _ _)
        simp only [List.nil_append, List.cons_append]
        refine step_of (boxF _ 29 6) (boxF_good _ _ _) ?_ ?_
        · intro a W Zs hS hFm hz hd
          refine .inl ⟨wanted_none rfl _, fun K hK => ?_⟩
          have HK := Lib.hid hK
          clear hd hFm hK
          go_simp
          exact HK.out _ _ ⟨_, _, rfl, rfl, Blk.new _ _ _, .inl ⟨Nat.le_refl _, by simp⟩⟩ (alloc_below _ _)
        simp only [List.nil_append, List.cons_append]
        refine step_of (frBoxF _ (t1)) (frBoxF_good _ _) ?_ ?_
        · intro a W Zs hS hFm hz hd hap
          obtain ⟨b15, cs15, e15, n15, q15, z15⟩ := hd 9 15 rfl rfl
          have h15 := ev_get hFm.size e15
          obtain ⟨a34, c34, e34, r34, f34⟩ := hd 7 34 rfl rfl
          have h34 := ev_get hFm.size e34
          have hB0 := (hz 9 _ rfl z15).1
          obtain ⟨u0, u1, u2, u3, u4, u5, rfl⟩ := arr6 n15
          have hq := q15.at
          have hfz := q15.frozen
          refine ⟨wanted_none rfl _, b15, z15, fun K hK => ?_⟩
          have HK := Lib.hid hK
          clear hd hFm hK
          go_simp
          exact HK.out undef _ (Only.fill6 _ _ _ _ _ _ _ _) (fun d hd' => by injection hd' with hd'; subst hd'; exact ⟨⟨b15, a34, c34, e15, q15.fill6 _ _ _ _ _ _, r34.agree f34 (store_apart (Only.fill6 W b15 _ _ _ _ _ _) hB0 z15 hap 7 rfl (by decide)), .inr (.inl rfl), ft_mono f34 (foot_depS 7 rfl rfl rfl)⟩, ⟨b15, _, e15, rfl, q15.fill6 _ _ _ _ _ _, z15⟩⟩)
        simp only [List.nil_append, List.cons_append]
        apply step_fix
        · intro a W Zs hS hFm hz hd
          have h35 := ev_get hFm.size (hd 8 35 rfl rfl)
          refine .inl ⟨wanted_none rfl _, fun K hK => ?_⟩
          have HK := Lib.hid hK
          clear hd hFm hK
          go_simp
          exact HK.out _ _ rfl (Below.refl _ _)
        simp only [List.nil_append, List.cons_append]
        intro a w5 Zs hS hFm hz hd
        have e16 := hd 11 16 (by decide) rfl
        have e0 := hFm.old 0 rfl
        conv at e0 => rhs; whnf
        have e1 := hFm.old 1 rfl
        conv at e1 => rhs; whnf
        have e2 := hFm.old 2 rfl
        conv at e2 => rhs; whnf
        have e3 := hFm.old 3 rfl
        conv at e3 => rhs; whnf
        have e4 := hFm.old 4 rfl
        conv at e4 => rhs; whnf
        have e5 := hFm.old 5 rfl
        conv at e5 => rhs; whnf
        have e6 := hFm.old 6 rfl
        conv at e6 => rhs; whnf
        have e7 := hFm.old 7 rfl
        conv at e7 => rhs; whnf
        have e8 := hFm.old 8 rfl
        conv at e8 => rhs; whnf
        have e9 := hFm.old 9 rfl
        conv at e9 => rhs; whnf
        have e10 := hFm.old 10 rfl
        conv at e10 => rhs; whnf
        have e11 := hFm.old 11 rfl
        conv at e11 => rhs; whnf
        have e12 := hFm.old 12 rfl
        conv at e12 => rhs; whnf
        have e13 := hFm.old 13 rfl
        conv at e13 => rhs; whnf
        have e14 := hFm.old 14 rfl
        conv at e14 => rhs; whnf
        have e17 := hFm.old 17 rfl
        conv at e17 => rhs; whnf
        have e18 := hFm.old 18 rfl
        conv at e18 => rhs; whnf
        have e19 := hFm.old 19 rfl
        conv at e19 => rhs; whnf
        have e20 := hFm.old 20 rfl
        conv at e20 => rhs; whnf
        have e21 := hFm.old 21 rfl
        conv at e21 => rhs; whnf
        have e22 := hFm.old 22 rfl
        conv at e22 => rhs; whnf
        have e23 := hFm.old 23 rfl
        conv at e23 => rhs; whnf
        have e24 := hFm.old 24 rfl
        conv at e24 => rhs; whnf
        have e25 := hFm.old 25 rfl
        conv at e25 => rhs; whnf
        have e26 := hFm.old 26 rfl
        conv at e26 => rhs; whnf
        have e36 := hFm.old 36 rfl
        conv at e36 => rhs; whnf
        have e37 := hFm.old 37 rfl
        conv at e37 => rhs; whnf
        have e38 := hFm.old 38 rfl
        conv at e38 => rhs; whnf
        have e39 := hFm.old 39 rfl
        conv at e39 => rhs; whnf
        have e40 := hFm.old 40 rfl
        conv at e40 => rhs; whnf
        have e41 := hFm.old 41 rfl
        conv at e41 => rhs; whnf
        have e42 := hFm.old 42 rfl
        conv at e42 => rhs; whnf
        have e43 := hFm.old 43 rfl
        conv at e43 => rhs; whnf
        have e44 := hFm.old 44 rfl
        conv at e44 => rhs; whnf
        have e45 := hFm.old 45 rfl
        conv at e45 => rhs; whnf
        have e46 := hFm.old 46 rfl
        conv at e46 => rhs; whnf
        have e47 := hFm.old 47 rfl
        conv at e47 => rhs; whnf
        have e48 := hFm.old 48 rfl
        conv at e48 => rhs; whnf
        have e49 := hFm.old 49 rfl
        conv at e49 => rhs; whnf
        have hsz := hFm.size
        have hdf := hFm.defers
        clear hd hFm
        obtain ⟨t, df⟩ := a
        simp only at hsz hdf
        subst hdf
        obtain ⟨x, hx⟩ : ∃ x : Nat → Value, ∀ i, t.getD i undef = x i := ⟨fun i => t.getD i undef, fun _ => rfl⟩
        have h16 := (hx 16).symm.trans e16
        have h0 := (hx 0).symm.trans e0
        have h1 := (hx 1).symm.trans e1
        have h2 := (hx 2).symm.trans e2
        have h3 := (hx 3).symm.trans e3
        have h4 := (hx 4).symm.trans e4
        have h5 := (hx 5).symm.trans e5
        have h6 := (hx 6).symm.trans e6
        have h7 := (hx 7).symm.trans e7
        have h8 := (hx 8).symm.trans e8
        have h9 := (hx 9).symm.trans e9
        have h10 := (hx 10).symm.trans e10
        have h11 := (hx 11).symm.trans e11
        have h12 := (hx 12).symm.trans e12
        have h13 := (hx 13).symm.trans e13
        have h14 := (hx 14).symm.trans e14
        have h17 := (hx 17).symm.trans e17
        have h18 := (hx 18).symm.trans e18
        have h19 := (hx 19).symm.trans e19
        have h20 := (hx 20).symm.trans e20
        have h21 := (hx 21).symm.trans e21
        have h22 := (hx 22).symm.trans e22
        have h23 := (hx 23).symm.trans e23
        have h24 := (hx 24).symm.trans e24
        have h25 := (hx 25).symm.trans e25
        have h26 := (hx 26).symm.trans e26
        have h36 := (hx 36).symm.trans e36
        have h37 := (hx 37).symm.trans e37
        have h38 := (hx 38).symm.trans e38
        have h39 := (hx 39).symm.trans e39
        have h40 := (hx 40).symm.trans e40
        have h41 := (hx 41).symm.trans e41
        have h42 := (hx 42).symm.trans e42
        have h43 := (hx 43).symm.trans e43
        have h44 := (hx 44).symm.trans e44
        have h45 := (hx 45).symm.trans e45
        have h46 := (hx 46).symm.trans e46
        have h47 := (hx 47).symm.trans e47
        have h48 := (hx 48).symm.trans e48
        have h49 := (hx 49).symm.trans e49
        have ht' : t = #[x 0, x 1, x 2, x 3, x 4, x 5, x 6, x 7, x 8, x 9, x 10, x 11, x 12, x 13, x 14, x 15, x 16, x 17, x 18, x 19, x 20, x 21, x 22, x 23, x 24, x 25, x 26, x 27, x 28, x 29, x 30, x 31, x 32, x 33, x 34, x 35, x 36, x 37, x 38, x 39, x 40, x 41, x 42, x 43, x 44, x 45, x 46, x 47, x 48, x 49] := frame_lit t 50 hsz x hx
        clear hx hsz hz e16 e0 e1 e2 e3 e4 e5 e6 e7 e8 e9 e10 e11 e12 e13 e14 e17 e18 e19 e20 e21 e22 e23 e24 e25 e26 e36 e37 e38 e39 e40 e41 e42 e43 e44 e45 e46 e47 e48 e49
        subst ht'
        (try dsimp only)
        rw [h16, h0, h1, h2, h3, h4, h5, h6, h7, h8, h9, h10, h11, h12, h13, h14, h17, h18, h19, h20, h21, h22, h23, h24, h25, h26, h36, h37, h38, h39, h40, h41, h42, h43, h44, h45, h46, h47, h48, h49]
        clear h16 h0 h1 h2 h3 h4 h5 h6 h7 h8 h9 h10 h11 h12 h13 h14 h17 h18 h19 h20 h21 h22 h23 h24 h25 h26 h36 h37 h38 h39 h40 h41 h42 h43 h44 h45 h46 h47 h48 h49
        rw [undef_fold]
        have hb := from_drew hS
        replace hM := hM.later hb
        replace hoV := hoV.later hb
        replace hB2 := hB2.trans (hb.mono hB2.size)
        clear hS hb hC hBw HRG2 HIV hrc hqc
        cases q1
        · have HREL := Lib.hid (show PiAt c ca cc r s a b ps w2.heap.size w w2 (.slice av (rightsOf c r s (ps.take k)).length cv) (.int .i64 ((k : Int) + 1)) w5 from ⟨k + 1, hlt, by go_num, hM, hB2, by rw [HTK2.out, if_neg (by simp), List.append_nil]; exact hoV⟩)
          clear hM hoV hB2 HTK2 hpl2
          generalize rightsOf c r s (ps.take k) = RS at *
          go_wp2
          go_roundw
          case rel => exact HREL.out
          case measure => simp [intOf]; omega
        · have hT := Lib.hid (show rightsOf c r s (ps.take (k + 1)) = rightsOf c r s (ps.take k) ++ [⟨false, z⟩] by rw [HTK2.out, if_pos rfl])
          clear HTK2
          generalize rightsOf c r s (ps.take k) = RS at *
          have hs25 := hB2.size
          go_wp2_with (at_builtin; refine wpList_appV _ rfl _ _ rfl w2.heap.size (.slice av RS.length cv) RS rfl (hoV.later (alloc_below _ _)) w5.heap.size 1 ⟨false, z⟩ rfl (heap_alloc_new _ _) hpl2 (by simp; omega) ?_; intro g cap' w6 h1' h2' h3' h4')
          have hown' := hoV.lt
          have hB6 := below_grown (hB2.trans ((alloc_below _ (.cells #[ifV ⟨false, z⟩] 72)).mono hB2.size)) (by simp; omega) h2' (fun k e => (hown' k e).1)
          have hM6 : PkM c ca cc 45 a b w w6 := by
            have hM7 := hM.later (alloc_below w5 (.cells #[ifV ⟨false, z⟩] 72))
            exact ⟨below_grown hM7.hB hM7.hB.size h2' (fun k e => by have := (hown' k e).1; omega), hM7.hC.grown h2' (fun e => by have := (hown' _ e.symm).1; omega), hM7.hA.grown h2' (fun e => by have := (hown' _ e.symm).1; omega), hM7.hD.grown h2' (fun e => by have := (hown' _ e.symm).1; omega), hM7.hZ.grown h2' (fun e => by have := (hown' _ e.symm).1; omega)⟩
          have HREL := Lib.hid (show PiAt c ca cc r s a b ps w2.heap.size w w2 (.slice (some ⟨g, 0, none⟩) (RS.length + 1) cap') (.int .i64 ((k : Int) + 1)) w6 from ⟨k + 1, hlt, by go_num, hM6, hB6, by rw [hT.out]; exact h1'⟩)
          clear h1' h2' h3' h4' hown' hoV hM hM6 hB6 hB2
          go_wp2
          go_roundw
          case rel => exact HREL.out
          case measure => simp [intOf]; omega
      · unfold ifV at hrc
        have HIV := Lib.hid (fun W => atextC_any z W)
        have htl2 : z.O.length ≤ 1048576 := htl
        have HTK2 := Lib.hid (show rightsOf c r s (ps.take (k + 1)) = rightsOf c r s (ps.take k) ++ if (rightA c r s z.O).2 = true then [⟨true, z⟩] else [] from HTK.out)
        clear HTK htl
        obtain ⟨t1, q1, htq⟩ : ∃ t1 q1, rightA c r s z.O = (t1, q1) := ⟨_, _, rfl⟩
        have HRG2 := Lib.hid (fun W h h2 => HRG.out z.O W h h2 htl2)
        rw [htq] at HRG2 HTK2
        clear htq HRG
        have hC := hM.hC
        have hBw := hM.hB
        go_upto_region 5 with fail
        refine region_slots [some 28, some 29, some 30, some 31, some 32, some 33, some 27, some 34, some 35, some 15, none, some 16] [none, none, none, none, none, none, none, none, none, none, some 9, none] 50 12 rfl (by kernel_rfl) (by kernel_rfl) rfl rfl ?_
        apply step_fix
        · intro a W Zs hS hFm hz hd
          have h5 := hFm.old 5 rfl
          conv at h5 => rhs; whnf
          replace h5 := ev_get hFm.size h5
          have hq := (hC.drew1.later hS).at
          unfold confBox at hq
          refine .inl ⟨wanted_none rfl _, fun K hK => ?_⟩
          have HK := Lib.hid hK
          clear hd hFm hK
          go_simp
          exact HK.out _ _ rfl (Below.refl _ _)
        simp only [List.nil_append, List.cons_append]
        apply step_fix
        · intro a W Zs hS hFm hz hd
          have h1 := hFm.old 1 rfl
          conv at h1 => rhs; whnf
          replace h1 := ev_get hFm.size h1
          refine .inl ⟨wanted_none rfl _, fun K hK => ?_⟩
          have HK := Lib.hid hK
          clear hd hFm hK
          go_simp
          exact HK.out _ _ rfl (Below.refl _ _)
        simp only [List.nil_append, List.cons_append]
        apply step_fix
        · intro a W Zs hS hFm hz hd
          have h2 := hFm.old 2 rfl
          conv at h2 => rhs; whnf
          replace h2 := ev_get hFm.size h2
          refine .inl ⟨wanted_none rfl _, fun K hK => ?_⟩
          have HK := Lib.hid hK
          clear hd hFm hK
          go_simp
          exact HK.out _ _ rfl (Below.refl _ _)
        simp only [List.nil_append, List.cons_append]
        apply step_fix
        · intro a W Zs hS hFm hz hd
          have h14 := hFm.old 14 rfl
          conv at h14 => rhs; whnf
          replace h14 := ev_get hFm.size h14
          refine .inl ⟨wanted_none rfl _, fun K hK => ?_⟩
          have HK := Lib.hid hK
          clear hd hFm hK
          go_simp
          exact HK.out _ _ rfl (Below.refl _ _)
        simp only [List.nil_append, List.cons_append]
        apply step_fix
        · intro a W Zs hS hFm hz hd
          have h31 := ev_get hFm.size (hd 3 31 rfl rfl)
          refine .inl ⟨wanted_none rfl _, fun K hK => ?_⟩
          have HK := Lib.hid hK
          clear hd hFm hK
          go_simp
          refine (HIV.out _).mono ?_
          rintro e W' ⟨rfl, hb⟩
          exact HK.out _ _ rfl hb
        simp only [List.nil_append, List.cons_append]
        refine step_of (rbF _ (t1) (q1)) (rbF_good _ _ _) ?_ ?_
        · intro a W Zs hS hFm hz hd
          have h28 := ev_get hFm.size (hd 0 28 rfl rfl)
          have h29 := ev_get hFm.size (hd 1 29 rfl rfl)
          have h30 := ev_get hFm.size (hd 2 30 rfl rfl)
          have h32 := ev_get hFm.size (hd 4 32 rfl rfl)
          refine .inl ⟨wanted_none rfl _, fun K hK => ?_⟩
          have HK := Lib.hid hK
          clear hd hFm hK
          go_simp
          refine (HRG2.out _ ((hbd.later hBw).later (from_drew hS)) ((hrow.later hBw).later (from_drew hS))).mono ?_
          rintro e W' ⟨ra, rc, rfl, hr, hfr, hb⟩
          exact HK.out _ _ ⟨ra, rc, rfl, hr, hr.foot hfr⟩ hb
        simp only [List.nil_append, List.cons_append]
        refine step_of (rbF _ (t1) (q1)) (rbF_good _ _ _) ?_ ?_
        · intro a W Zs hS hFm hz hd
          obtain ⟨a33, c33, e33, r33, f33⟩ := hd 5 33 rfl rfl
          have h33 := ev_get hFm.size e33
          refine .inl ⟨wanted_none rfl _, fun K hK => ?_⟩
          have HK := Lib.hid hK
          clear hd hFm hK
          go_simp
          exact HK.out _ _ ⟨a33, c33, rfl, r33, ft_mono f33 (foot_dep 5 rfl rfl rfl)⟩ (Below.refl _ _)
        simp only [List.nil_append, List.cons_append]
        refine step_of (frF _ (t1)) (frF_good _ _) ?_ ?_
        · intro a W Zs hS hFm hz hd
          obtain ⟨a27, c27, e27, r27, f27⟩ := hd 6 27 rfl rfl
          have h27 := ev_get hFm.size e27
          refine .inl ⟨wanted_none rfl _, fun K hK => ?_⟩
          have HK := Lib.hid hK
          clear hd hFm hK
          go_simp
          exact HK.out _ _ ⟨a27, c27, rfl, r27, ft_mono f27 (foot_dep 6 rfl rfl rfl)⟩ (Below.refl _ _)
        simp only [List.nil_append, List.cons_append]
        apply step_fix
        · intro a W Zs hS hFm hz hd
          obtain ⟨a27, c27, e27, r27, f27⟩ := hd 6 27 rfl rfl
          have h27 := ev_get hFm.size e27
          refine .inl ⟨wanted_none rfl _, fun K hK => ?_⟩
          have HK := Lib.hid hK
          clear hd hFm hK
          go_simp
          exact HK.out _ _ rfl (Below.refl _ _)
        simp only [List.nil_append, List.cons_append]
        refine step_of (boxF _ 29 6) (boxF_good _ _ _) ?_ ?_
        · intro a W Zs hS hFm hz hd
          refine .inl ⟨wanted_none rfl _, fun K hK => ?_⟩
          have HK := Lib.hid hK
          clear hd hFm hK
          go_simp
          exact HK.out _ _ ⟨_, _, rfl, rfl, Blk.new _ _ _, .inl ⟨Nat.le_refl _, by simp⟩⟩ (alloc_below _ _)
        simp only [List.nil_append, List.cons_append]
        refine step_of (frBoxF _ (t1)) (frBoxF_good _ _) ?_ ?_
        · intro a W Zs hS hFm hz hd hap
          obtain ⟨b15, cs15, e15, n15, q15, z15⟩ := hd 9 15 rfl rfl
          have h15 := ev_get hFm.size e15
          obtain ⟨a34, c34, e34, r34, f34⟩ := hd 7 34 rfl rfl
          have h34 := ev_get hFm.size e34
          have hB0 := (hz 9 _ rfl z15).1
          obtain ⟨u0, u1, u2, u3, u4, u5, rfl⟩ := arr6 n15
          have hq := q15.at
          have hfz := q15.frozen
          refine ⟨wanted_none rfl _, b15, z15, fun K hK => ?_⟩
          have HK := Lib.hid hK
          clear hd hFm hK
          go_simp
          exact HK.out undef _ (Only.fill6 _ _ _ _ _ _ _ _) (fun d hd' => by injection hd' with hd'; subst hd'; exact ⟨⟨b15, a34, c34, e15, q15.fill6 _ _ _ _ _ _, r34.agree f34 (store_apart (Only.fill6 W b15 _ _ _ _ _ _) hB0 z15 hap 7 rfl (by decide)), .inr (.inl rfl), ft_mono f34 (foot_depS 7 rfl rfl rfl)⟩, ⟨b15, _, e15, rfl, q15.fill6 _ _ _ _ _ _, z15⟩⟩)
        simp only [List.nil_append, List.cons_append]
        apply step_fix
        · intro a W Zs hS hFm hz hd
          have h35 := ev_get hFm.size (hd 8 35 rfl rfl)
          refine .inl ⟨wanted_none rfl _, fun K hK => ?_⟩
          have HK := Lib.hid hK
          clear hd hFm hK
          go_simp
          exact HK.out _ _ rfl (Below.refl _ _)
        simp only [List.nil_append, List.cons_append]
        intro a w5 Zs hS hFm hz hd
        have e16 := hd 11 16 (by decide) rfl
        have e0 := hFm.old 0 rfl
        conv at e0 => rhs; whnf
        have e1 := hFm.old 1 rfl
        conv at e1 => rhs; whnf
        have e2 := hFm.old 2 rfl
        conv at e2 => rhs; whnf
        have e3 := hFm.old 3 rfl
        conv at e3 => rhs; whnf
        have e4 := hFm.old 4 rfl
        conv at e4 => rhs; whnf
        have e5 := hFm.old 5 rfl
        conv at e5 => rhs; whnf
        have e6 := hFm.old 6 rfl
        conv at e6 => rhs; whnf
        have e7 := hFm.old 7 rfl
        conv at e7 => rhs; whnf
        have e8 := hFm.old 8 rfl
        conv at e8 => rhs; whnf
        have e9 := hFm.old 9 rfl
        conv at e9 => rhs; whnf
        have e10 := hFm.old 10 rfl
        conv at e10 => rhs; whnf
        have e11 := hFm.old 11 rfl
        conv at e11 => rhs; whnf
        have e12 := hFm.old 12 rfl
        conv at e12 => rhs; whnf
        have e13 := hFm.old 13 rfl
        conv at e13 => rhs; whnf
        have e14 := hFm.old 14 rfl
        conv at e14 => rhs; whnf
        have e17 := hFm.old 17 rfl
        conv at e17 => rhs; whnf
        have e18 := hFm.old 18 rfl
        conv at e18 => rhs; whnf
        have e19 := hFm.old 19 rfl
        conv at e19 => rhs; whnf
        have e20 := hFm.old 20 rfl
        conv at e20 => rhs; whnf
        have e21 := hFm.old 21 rfl
        conv at e21 => rhs; whnf
        have e22 := hFm.old 22 rfl
        conv at e22 => rhs; whnf
        have e23 := hFm.old 23 rfl
        conv at e23 => rhs; whnf
        have e24 := hFm.old 24 rfl
        conv at e24 => rhs; whnf
        have e25 := hFm.old 25 rfl
        conv at e25 => rhs; whnf
        have e26 := hFm.old 26 rfl
        conv at e26 => rhs; whnf
        have e36 := hFm.old 36 rfl
        conv at e36 => rhs; whnf
        have e37 := hFm.old 37 rfl
        conv at e37 => rhs; whnf
        have e38 := hFm.old 38 rfl
        conv at e38 => rhs; whnf
        have e39 := hFm.old 39 rfl
        conv at e39 => rhs; whnf
        have e40 := hFm.old 40 rfl
        conv at e40 => rhs; whnf
        have e41 := hFm.old 41 rfl
        conv at e41 => rhs; whnf
        have e42 := hFm.old 42 rfl
        conv at e42 => rhs; whnf
        have e43 := hFm.old 43 rfl
        conv at e43 => rhs; whnf
        have e44 := hFm.old 44 rfl
        conv at e44 => rhs; whnf
        have e45 := hFm.old 45 rfl
        conv at e45 => rhs; whnf
        have e46 := hFm.old 46 rfl
        conv at e46 => rhs; whnf
        have e47 := hFm.old 47 rfl
        conv at e47 => rhs; whnf
        have e48 := hFm.old 48 rfl
        conv at e48 => rhs; whnf
        have e49 := hFm.old 49 rfl
        conv at e49 => rhs; whnf
        have hsz := hFm.size
        have hdf := hFm.defers
        clear hd hFm
        obtain ⟨t, df⟩ := a
        simp only at hsz hdf
        subst hdf
        obtain ⟨x, hx⟩ : ∃ x : Nat → Value, ∀ i, t.getD i undef = x i := ⟨fun i => t.getD i undef, fun _ => rfl⟩
        have h16 := (hx 16).symm.trans e16
        have h0 := (hx 0).symm.trans e0
        have h1 := (hx 1).symm.trans e1
        have h2 := (hx 2).symm.trans e2
        have h3 := (hx 3).symm.trans e3
        have h4 := (hx 4).symm.trans e4
        have h5 := (hx 5).symm.trans e5
        have h6 := (hx 6).symm.trans e6
        have h7 := (hx 7).symm.trans e7
        have h8 := (hx 8).symm.trans e8
        have h9 := (hx 9).symm.trans e9
        have h10 := (hx 10).symm.trans e10
        have h11 := (hx 11).symm.trans e11
        have h12 := (hx 12).symm.trans e12
        have h13 := (hx 13).symm.trans e13
        have h14 := (hx 14).symm.trans e14
        have h17 := (hx 17).symm.trans e17
        have h18 := (hx 18).symm.trans e18
        have h19 := (hx 19).symm.trans e19
        have h20 := (hx 20).symm.trans e20
        have h21 := (hx 21).symm.trans e21
        have h22 := (hx 22).symm.trans e22
        have h23 := (hx 23).symm.trans e23
        have h24 := (hx 24).symm.trans e24
        have h25 := (hx 25).symm.trans e25
        have h26 := (hx 26).symm.trans e26
        have h36 := (hx 36).symm.trans e36
        have h37 := (hx 37).symm.trans e37
        have h38 := (hx 38).symm.trans e38
        have h39 := (hx 39).symm.trans e39
        have h40 := (hx 40).symm.trans e40
        have h41 := (hx 41).symm.trans e41
        have h42 := (hx 42).symm.trans e42
        have h43 := (hx 43).symm.trans e43
        have h44 := (hx 44).symm.trans e44
        have h45 := (hx 45).symm.trans e45
        have h46 := (hx 46).symm.trans e46
        have h47 := (hx 47).symm.trans e47
        have h48 := (hx 48).symm.trans e48
        have h49 := (hx 49).symm.trans e49
        have ht' : t = #[x 0, x 1, x 2, x 3, x 4, x 5, x 6, x 7, x 8, x 9, x 10, x 11, x 12, x 13, x 14, x 15, x 16, x 17, x 18, x 19, x 20, x 21, x 22, x 23, x 24, x 25, x 26, x 27, x 28, x 29, x 30, x 31, x 32, x 33, x 34, x 35, x 36, x 37, x 38, x 39, x 40, x 41, x 42, x 43, x 44, x 45, x 46, x 47, x 48, x 49] := frame_lit t 50 hsz x hx
        clear hx hsz hz e16 e0 e1 e2 e3 e4 e5 e6 e7 e8 e9 e10 e11 e12 e13 e14 e17 e18 e19 e20 e21 e22 e23 e24 e25 e26 e36 e37 e38 e39 e40 e41 e42 e43 e44 e45 e46 e47 e48 e49
        subst ht'
        (try dsimp only)
        rw [h16, h0, h1, h2, h3, h4, h5, h6, h7, h8, h9, h10, h11, h12, h13, h14, h17, h18, h19, h20, h21, h22, h23, h24, h25, h26, h36, h37, h38, h39, h40, h41, h42, h43, h44, h45, h46, h47, h48, h49]
        clear h16 h0 h1 h2 h3 h4 h5 h6 h7 h8 h9 h10 h11 h12 h13 h14 h17 h18 h19 h20 h21 h22 h23 h24 h25 h26 h36 h37 h38 h39 h40 h41 h42 h43 h44 h45 h46 h47 h48 h49
        rw [undef_fold]
        have hb := from_drew hS
        replace hM := hM.later hb
        replace hoV := hoV.later hb
        replace hB2 := hB2.trans (hb.mono hB2.size)
        clear hS hb hC hBw HRG2 HIV hrc hqc
        cases q1
        · have HREL := Lib.hid (show PiAt c ca cc r s a b ps w2.heap.size w w2 (.slice av (rightsOf c r s (ps.take k)).length cv) (.int .i64 ((k : Int) + 1)) w5 from ⟨k + 1, hlt, by go_num, hM, hB2, by rw [HTK2.out, if_neg (by simp), List.append_nil]; exact hoV⟩)
          clear hM hoV hB2 HTK2 hpl2
          generalize rightsOf c r s (ps.take k) = RS at *
          go_wp2
          go_roundw
          case rel => exact HREL.out
          case measure => simp [intOf]; omega
        · have hT := Lib.hid (show rightsOf c r s (ps.take (k + 1)) = rightsOf c r s (ps.take k) ++ [⟨true, z⟩] by rw [HTK2.out, if_pos rfl])
          clear HTK2
          generalize rightsOf c r s (ps.take k) = RS at *
          have hs25 := hB2.size
          go_wp2_with (at_builtin; refine wpList_appV _ rfl _ _ rfl w2.heap.size (.slice av RS.length cv) RS rfl (hoV.later (alloc_below _ _)) w5.heap.size 1 ⟨true, z⟩ rfl (heap_alloc_new _ _) hpl2 (by simp; omega) ?_; intro g cap' w6 h1' h2' h3' h4')
          have hown' := hoV.lt
          have hB6 := below_grown (hB2.trans ((alloc_below _ (.cells #[ifV ⟨true, z⟩] 72)).mono hB2.size)) (by simp; omega) h2' (fun k e => (hown' k e).1)
          have hM6 : PkM c ca cc 45 a b w w6 := by
            have hM7 := hM.later (alloc_below w5 (.cells #[ifV ⟨true, z⟩] 72))
            exact ⟨below_grown hM7.hB hM7.hB.size h2' (fun k e => by have := (hown' k e).1; omega), hM7.hC.grown h2' (fun e => by have := (hown' _ e.symm).1; omega), hM7.hA.grown h2' (fun e => by have := (hown' _ e.symm).1; omega), hM7.hD.grown h2' (fun e => by have := (hown' _ e.symm).1; omega), hM7.hZ.grown h2' (fun e => by have := (hown' _ e.symm).1; omega)⟩
          have HREL := Lib.hid (show PiAt c ca cc r s a b ps w2.heap.size w w2 (.slice (some ⟨g, 0, none⟩) (RS.length + 1) cap') (.int .i64 ((k : Int) + 1)) w6 from ⟨k + 1, hlt, by go_num, hM6, hB6, by rw [hT.out]; exact h1'⟩)
          clear h1' h2' h3' h4' hown' hoV hM hM6 hB6 hB2
          go_wp2
          go_roundw
          case rel => exact HREL.out
          case measure => simp [intOf]; omega
    · have d1 : decide (k < ps.length) = false := by simpa using hlt
      have HE := Lib.hid (show ps.take k = ps from List.take_of_length_le (by omega))
      have hcl := chosen_len 1048576 (rightsOf c r s (ps.take k)) (fun p hp => HTX.out p (List.mem_of_mem_take (List.mem_filter.1 hp).1))
      have hrl : (rightsOf c r s (ps.take k)).length ≤ 2 := by
        have h1 : (rightsOf c r s (ps.take k)).length ≤ (ps.take k).length := List.length_filter_le _ _
        have h2 := List.length_take_le' k ps
        omega
      have HPK2 := Lib.hid (show rightA c r s (chosenL (rightsOf c r s (ps.take k))) = A from (by rw [HE.out]; exact HPK.out))
      clear HE HTX HPK
      generalize rightsOf c r s (ps.take k) = RS at *
      have hrR := hoV.row
      have HCH := Lib.hid (fun W h => achosen_any av RS cv W h hrl)
      have HRG := Lib.hid (fun W h h2 => aRight_any c ca cc r s (chosenL RS) W h hc h2 h0 h1r hcl)
      rw [HPK2.out] at HRG
      clear hcl
      generalize chosenL RS = ct at *
      have hC := hM.hC
      have hBw := hM.hB
      go_upto_region 9 with fail
      have hqc := hM.hC.at
      unfold confBox at hqc
      have hc0 := conf_cells hM.hC.drew1
      go_region_held3 (fun W => W.cell? ⟨w.heap.size, 0, none⟩ = some (.int .i64 c.N) ∧ W.cell? ⟨w.heap.size, 1, none⟩ = some (.int .i64 c.Pi) ∧ W.cell? ⟨w.heap.size, 2, none⟩ = some (.int .i64 c.E) ∧ W.cell? ⟨w.heap.size, 3, none⟩ = some (.int .i64 c.G) ∧ W.cell? ⟨w.heap.size, 4, none⟩ = some (.int .i64 c.F) ∧ W.cell? ⟨w.heap.size, 5, none⟩ = some (.slice ca c.P.length cc))
        (first | assumption | (with_reducible exact hc0) | (with_reducible exact hc7) | (with_reducible exact hc8) | (with_reducible exact hc9))
        (first
        | (go_at_call 38; refine (HCH.out _ (hrR.later (Below.refl _ _).drew)).mono ?_; rintro e w7 ⟨rfl, hb7⟩; have hM7 := hM.later (from_drew hb7); have hc7 := conf_cells hM7.hC)
        | (go_at_call 18; refine (HRG.out _ (hbd.later hM7.hB) (hrow.later hM7.hB)).mono ?_; rintro e w8 ⟨fa, fc, rfl, hrf, hnf, hb8⟩; have hM8 := hM7.later hb8; have hfz := hM8.hZ.frozen; have hqz := hM8.hZ.at; have hc8 := conf_cells hM8.hC; have hc9 := conf_cells (blk_far6 (g2 := w.heap.size + 1 + 1 + 1) hM8.hC (by omega) (.int .i64 A.1.K) (.int .i64 A.1.R) (.int .i64 A.1.S) (.int .i64 A.1.P.K) (.int .i64 A.1.P.V) (.slice fa A.1.E.length fc))))
      all_goals
        have hz7 := hM7.hZ.lt
        clear hc0 hc7 hc8 hc9 hqc
        go_wp2
        exact apick_end A.1 A.2 w w8 fa fc _ rfl hM8.hB hM8.hZ hrf (fun x hx => by have := hnf x hx; omega) rfl

end Go.Proofs.YtkflijbhlibadabDoor
/-
  Contracts of the laws' own helpers: within, Text, known.
-/
namespace Go.Proofs.YtkflijbhlibadabDoor
open Go.RowKit Plait
set_option maxRecDepth 100000
set_option linter.unusedVariables false

theorem within_any (a n : Int) (w : World) (hn : 0 < n) (hn2 : n ≤ 1099511627776) :
    Calls Tryd.prog 30 #[.int .i64 a, .int .i64 n] w fun e w' => e = .returned (.int .i64 (a % n)) ∧ w = w' := by
  have b1 : 0 ≤ a % n := Int.emod_nonneg _ (by omega)
  have b2 : a % n < n := Int.emod_lt_of_pos _ hn
  by_cases h0 : 0 ≤ a
  · go_enter Tryd.func30, Tryd.ntmps30
    go_wp2
    go_ret
    exact ⟨rfl, rfl⟩
  · have h1 : a.tmod n = -((-a) % n) := by
      rw [show a = -(-a) by omega, Int.neg_tmod, Int.tmod_eq_emod_of_nonneg (by omega)]; simp
    have c1 : 0 ≤ (-a) % n := Int.emod_nonneg _ (by omega)
    have c2 : (-a) % n < n := Int.emod_lt_of_pos _ hn
    by_cases hz : (-a) % n = 0
    · have h2 : a.tmod n = 0 := by rw [h1, hz]; rfl
      have HF := Lib.hid (show (0 : Int) = a % n by
        have : n ∣ -a := Int.dvd_of_emod_eq_zero hz
        exact (Int.emod_eq_zero_of_dvd (Int.dvd_neg.1 this)).symm)
      clear h1 hz c1 c2 b1 b2
      go_enter Tryd.func30, Tryd.ntmps30
      go_wp2
      go_ret
      exact ⟨ret_int HF.out, rfl⟩
    · obtain ⟨r, hr⟩ : ∃ r, r = (-a) % n := ⟨_, rfl⟩
      rw [← hr] at h1 c1 c2 hz
      have HF := Lib.hid (show -r + n = a % n by
        have e := Int.emod_add_mul_ediv (-a) n
        rw [← hr] at e
        have e2 : a = (-r + n) + n * (-((-a) / n) - 1) := by rw [Int.mul_sub, Int.mul_neg]; omega
        rw [e2, Int.add_mul_emod_self_left]
        exact (Int.emod_eq_of_lt (by omega) (by omega)).symm)
      clear hr b1 b2
      go_enter Tryd.func30, Tryd.ntmps30
      go_wp2
      go_ret
      exact ⟨ret_int HF.out, rfl⟩

end Go.Proofs.YtkflijbhlibadabDoor
/-
  Contract of the laws' Text: signs by numbers; nothing that was in memory is changed.
-/
namespace Go.Proofs.YtkflijbhlibadabDoor
open Go.RowKit Plait
set_option maxRecDepth 100000
set_option linter.unusedVariables false

/-- The loop of Text. -/
def TextAtL (zs : List Int) (w : World) (s i : Value) (w' : World) : Prop :=
  ∃ k : Nat, k ≤ zs.length ∧ k ≤ 80 ∧ i = .int .i64 k ∧ s = .string ⟨((zs.take k).map signOf).toArray⟩ ∧ Below w.heap.size w w'

theorem sign_cell (j : Nat) (h : j < 11) : [Value.string ⟨#[48]⟩, Value.string ⟨#[49]⟩, Value.string ⟨#[48]⟩, Value.string ⟨#[49]⟩, Value.string ⟨#[48]⟩, Value.string ⟨#[49]⟩, Value.string ⟨#[48]⟩, Value.string ⟨#[49]⟩, Value.string ⟨#[35]⟩, Value.string ⟨#[46]⟩, Value.string ⟨#[120]⟩][j]'(by simpa using h) = .string ⟨#[signs.getD j 0]⟩ := by
  have h' : j = 0 ∨ j = 1 ∨ j = 2 ∨ j = 3 ∨ j = 4 ∨ j = 5 ∨ j = 6 ∨ j = 7 ∨ j = 8 ∨ j = 9 ∨ j = 10 := by omega
  rcases h' with rfl | rfl | rfl | rfl | rfl | rfl | rfl | rfl | rfl | rfl | rfl <;> rfl

theorem sign_take (zs : List Int) (k : Nat) (h : k < zs.length) (j : Nat) (hj : zs[k] % 11 = j) : (zs.take (k + 1)).map signOf = (zs.take k).map signOf ++ [signs.getD j 0] := by
  rw [List.take_succ_eq_append_getElem h, List.map_append]
  simp [signOf, hj]

theorem textL_of (zs : List Int) (k : Nat) (h : k ≤ zs.length) (h2 : k ≤ 80) (h3 : k = zs.length ∨ k = 80) : (zs.take k).map signOf = textL zs := by
  unfold textL
  rcases h3 with rfl | rfl
  · rw [List.take_of_length_le (Nat.le_refl _), List.take_of_length_le h2]
  · rfl

set_option maxHeartbeats 800000 in
theorem text_any (a : Option Addr) (zs : List Int) (cap : Nat) (w : World) (hrow : Row w a zs) :
    Calls Tryd.prog 16 #[.slice a zs.length cap] w fun e w' => e = .returned (.string ⟨(textL zs).toArray⟩) ∧ Below w.heap.size w w' := by
  have hl := hrow.1
  go_enter Tryd.func16, Tryd.ntmps16
  go_wp2
  go_loopw [3, 4] (fun s i w' => TextAtL zs w s i w') (fun _ i _ => zs.length - (intOf i).toNat)
  case atStart => exact ⟨0, Nat.zero_le _, Nat.zero_le _, rfl, by simp, Below.refl _ _⟩
  case round =>
    obtain ⟨k, hk, hk2, rfl, rfl, hb⟩ := hrel
    by_cases hlt : k < zs.length
    · have d1 : decide (k < zs.length) = true := by simpa using hlt
      by_cases h80 : k < 80
      · have d2 : decide ((k : Int) < 80) = true := by simp; omega
        have hlen : ((zs.take k).map signOf).length ≤ 80 := by simp; omega
        obtain ⟨_, hz, h3⟩ := hrow
        rcases h3 with h3 | ⟨b, off, rfl, hbl, hc⟩
        · rw [h3] at hlt; simp at hlt
        have hck : wr.cell? ⟨b, off + k, none⟩ = some (.int .i64 zs[k]) := by rw [hb.cell (p := ⟨b, off + k, none⟩) hbl]; exact hc k hlt
        have hzk := hz zs[k] (List.getElem_mem hlt)
        obtain ⟨j, hj⟩ : ∃ j : Nat, zs[k] % 11 = j := ⟨(zs[k] % 11).toNat, by omega⟩
        have hj11 : j < 11 := by omega
        have HT := Lib.hid (sign_take zs k hlt j hj)
        have hsg := sign_cell j hj11
        generalize signs.getD j 0 = c at *
        generalize (zs.take k).map signOf = L at *
        have HC := Lib.hid hc
        have HZ := Lib.hid hz
        clear hc hz
        have hbw := hb.size
        have hbl2 : b < wr.heap.size := by omega
        have HJ := Lib.hid hj
        clear hj
        go_wp2_with fail
        refine (within_any _ _ _ (by omega) (by omega)).mono ?_
        rintro e w2 ⟨rfl, rfl⟩
        rw [HJ.out]
        go_wp2
        go_roundw
        case rel => exact ⟨k + 1, by omega, by omega, by go_num, by rw [HT.out], hb.alloc hbw _⟩
        case measure => simp [intOf]; omega
      · have d2 : decide ((k : Int) < 80) = false := by simp; omega
        rw [textL_of zs k hk hk2 (.inr (by omega))]
        go_wp2
        go_ret
        exact ⟨rfl, hb⟩
    · have d1 : decide (k < zs.length) = false := by simpa using hlt
      rw [textL_of zs k hk hk2 (.inl (by omega))]
      go_wp2
      go_ret
      exact ⟨rfl, hb⟩

end Go.Proofs.YtkflijbhlibadabDoor
/-
  Contract of the laws' known: the document's example holds.
-/
namespace Go.Proofs.YtkflijbhlibadabDoor
open Go.RowKit Plait
set_option maxRecDepth 100000
set_option linter.unusedVariables false

end Go.Proofs.YtkflijbhlibadabDoor
/-
  plaitinglaw10: within, known, of.
-/
namespace Go.Proofs.YtkflijbhlibadabDoor
open Go.RowKit Plait
set_option maxRecDepth 100000
set_option linter.unusedVariables false
set_option linter.unusedSimpArgs false

theorem within10_any (a n : Int) (w : World) (hn : 0 < n) (hn2 : n ≤ 1099511627776) :
    Calls Tryd.prog 11 #[.int .i64 a, .int .i64 n] w fun e w' => e = .returned (.int .i64 (a % n)) ∧ w = w' := by
  have b1 : 0 ≤ a % n := Int.emod_nonneg _ (by omega)
  have b2 : a % n < n := Int.emod_lt_of_pos _ hn
  by_cases h0 : 0 ≤ a
  · go_enter Tryd.func11, Tryd.ntmps11
    go_wp2
    go_ret
    exact ⟨rfl, rfl⟩
  · have h1 : a.tmod n = -((-a) % n) := by
      rw [show a = -(-a) by omega, Int.neg_tmod, Int.tmod_eq_emod_of_nonneg (by omega)]; simp
    have c1 : 0 ≤ (-a) % n := Int.emod_nonneg _ (by omega)
    have c2 : (-a) % n < n := Int.emod_lt_of_pos _ hn
    by_cases hz : (-a) % n = 0
    · have h2 : a.tmod n = 0 := by rw [h1, hz]; rfl
      have HF := Lib.hid (show (0 : Int) = a % n by
        have : n ∣ -a := Int.dvd_of_emod_eq_zero hz
        exact (Int.emod_eq_zero_of_dvd (Int.dvd_neg.1 this)).symm)
      clear h1 hz c1 c2 b1 b2
      go_enter Tryd.func11, Tryd.ntmps11
      go_wp2
      go_ret
      exact ⟨ret_int HF.out, rfl⟩
    · obtain ⟨r, hr⟩ : ∃ r, r = (-a) % n := ⟨_, rfl⟩
      rw [← hr] at h1 c1 c2 hz
      have HF := Lib.hid (show -r + n = a % n by
        have e := Int.emod_add_mul_ediv (-a) n
        rw [← hr] at e
        have e2 : a = (-r + n) + n * (-((-a) / n) - 1) := by rw [Int.mul_sub, Int.mul_neg]; omega
        rw [e2, Int.add_mul_emod_self_left]
        exact (Int.emod_eq_of_lt (by omega) (by omega)).symm)
      clear hr b1 b2
      go_enter Tryd.func11, Tryd.ntmps11
      go_wp2
      go_ret
      exact ⟨ret_int HF.out, rfl⟩

def f10 : Fr := ⟨1, 0, 2, ⟨0, 0⟩, []⟩
theorem f10_ok : f10.Ok c0 := Fr.Ok.of (by decide)
theorem take_zero : takeA c0 0 0 zeroSd zeroSd = (zeroF, false) := by decide +kernel
theorem right_f10 : rightA c0 0 2 (textF f10) = (f10, true) := rightA_text c0_ok f10_ok (by decide) (by decide)

theorem kpick (w : World) (hbd : Bnds w) : Calls Tryd.prog 21 #[.agg #[.int .i64 6, .int .i64 4, .int .i64 0, .int .i64 0, .int .i64 0, .slice none 0 0], .int .i64 0, .int .i64 0, .agg #[.string ⟨#[]⟩, .string ⟨#[]⟩, .string ⟨#[]⟩, .int .i64 0], .agg #[.string ⟨#[]⟩, .string ⟨#[]⟩, .string ⟨#[]⟩, .int .i64 0]] w (RightRet (zeroF, false) w) := by
  have := aPick_any c0 none 0 0 0 zeroSd zeroSd w hbd c0_ok (Row.empty _ _) (by omega) (by omega) (by decide) (by decide) (by decide) (by decide)
  rw [take_zero] at this
  exact this
theorem kright (w : World) (hbd : Bnds w) : Calls Tryd.prog 18 #[.agg #[.int .i64 6, .int .i64 4, .int .i64 0, .int .i64 0, .int .i64 0, .slice none 0 0], .int .i64 0, .int .i64 2, .string ⟨(textF f10).toArray⟩] w (RightRet (f10, true) w) := by
  have := aRight_any c0 none 0 0 2 (textF f10) w hbd c0_ok (Row.empty _ _) (by omega) (by omega) (by rw [textF_length]; decide)
  rw [right_f10] at this
  exact this
theorem ktext (w : World) : Calls Tryd.prog 14 #[.agg #[.int .i64 6, .int .i64 4, .int .i64 0, .int .i64 0, .int .i64 0, .slice none 0 0], .agg #[.int .i64 1, .int .i64 0, .int .i64 2, .int .i64 0, .int .i64 0, .slice none 0 0]] w fun e w' => e = .returned (.string ⟨(textF f10).toArray⟩) ∧ Below w.heap.size w w' :=
  rText_ok c0 none 0 f10 none 0 w c0_ok f10_ok (RowT.empty _ _)

set_option maxHeartbeats 1600000 in
theorem known10_any (w : World) (hbd : Bnds w) : Calls Tryd.prog 9 #[] w fun e w' => e = .returned (.bool true) ∧ Below w.heap.size w w' := by
  have HP := Lib.hid kpick
  have HR := Lib.hid kright
  have HT := Lib.hid ktext
  have hB : Below w.heap.size w (w.alloc (.cells #[.int .i64 6, .int .i64 4, .int .i64 0, .int .i64 0, .int .i64 0, .slice none 0 0] 24)) := alloc_below w _
  have hC : Blk (w.alloc (.cells #[.int .i64 6, .int .i64 4, .int .i64 0, .int .i64 0, .int .i64 0, .slice none 0 0] 24)) w.heap.size 24 #[.int .i64 6, .int .i64 4, .int .i64 0, .int .i64 0, .int .i64 0, .slice none 0 0] := Blk.new w _ _
  generalize textF f10 = t at *
  go_enter Tryd.func9, Tryd.ntmps9
  go_upto_region 2 with fail
  generalize w.alloc (.cells #[.int .i64 6, .int .i64 4, .int .i64 0, .int .i64 0, .int .i64 0, .slice none 0 0] 24) = w1 at *
  have hq := hC.at
  go_wp2_with fail
  refine (HP.out _ (hbd.later hB)).mono ?_
  rintro e w2 ⟨pa, pc, rfl, -, -, hb⟩
  replace hB := hB.trans (hb.mono hB.size)
  replace hC := hC.later hb
  clear hb hq HP
  go_upto_region 3 with fail
  have hb := alloc_below w2 (.cells #[.int .i64 zeroF.K, .int .i64 zeroF.R, .int .i64 zeroF.S, .int .i64 zeroF.P.K, .int .i64 zeroF.P.V, .slice pa zeroF.E.length pc] 29)
  replace hB := hB.trans (hb.mono hB.size)
  replace hC := hC.later hb
  clear hb
  generalize hw3 : w2.alloc _ = w3 at *
  clear hw3
  refine region_slots [some 15, some 16, some 17, some 18, some 19, some 14, some 20, some 21, some 4, none, some 5] [none, none, none, none, none, none, none, none, none, some 8, none] 37 11 rfl (by kernel_rfl) (by kernel_rfl) rfl rfl ?_
  apply step_fix
  · intro a W Zs hS hFm hz hd
    have h1 := hFm.old 1 rfl
    conv at h1 => rhs; whnf
    replace h1 := ev_get hFm.size h1
    have hq := (hC.drew1.later hS).at
    refine .inl ⟨wanted_none rfl _, fun K hK => ?_⟩
    have HK := Lib.hid hK
    clear hd hFm hK
    go_simp
    exact HK.out _ _ rfl (Below.refl _ _)
  simp only [List.nil_append, List.cons_append]
  apply step_fix
  · intro a W Zs hS hFm hz hd
    have h1 := hFm.old 1 rfl
    conv at h1 => rhs; whnf
    replace h1 := ev_get hFm.size h1
    have hq := (hC.drew1.later hS).at
    refine .inl ⟨wanted_none rfl _, fun K hK => ?_⟩
    have HK := Lib.hid hK
    clear hd hFm hK
    go_simp
    exact HK.out _ _ rfl (Below.refl _ _)
  simp only [List.nil_append, List.cons_append]
  apply step_fix
  · intro a W Zs hS hFm hz hd
    refine .inl ⟨wanted_none rfl _, fun K hK => ?_⟩
    have HK := Lib.hid hK
    clear hd hFm hK
    go_simp
    exact HK.out _ _ rfl (Below.refl _ _)
  simp only [List.nil_append, List.cons_append]
  apply step_fix
  · intro a W Zs hS hFm hz hd
    have h16 := ev_get hFm.size (hd 1 16 rfl rfl)
    have h17 := ev_get hFm.size (hd 2 17 rfl rfl)
    refine .inl ⟨wanted_none rfl _, fun K hK => ?_⟩
    have HK := Lib.hid hK
    clear hd hFm hK
    go_simp
    refine (HT.out _).mono ?_
    rintro e W' ⟨rfl, hb⟩
    exact HK.out _ _ rfl hb
  simp only [List.nil_append, List.cons_append]
  refine step_of (rbF _ (f10) (true)) (rbF_good _ _ _) ?_ ?_
  · intro a W Zs hS hFm hz hd
    have h15 := ev_get hFm.size (hd 0 15 rfl rfl)
    have h18 := ev_get hFm.size (hd 3 18 rfl rfl)
    refine .inl ⟨wanted_none rfl _, fun K hK => ?_⟩
    have HK := Lib.hid hK
    clear hd hFm hK
    go_simp
    refine (HR.out _ ((hbd.later hB).later (from_drew hS))).mono ?_
    rintro e W' ⟨ra, rc, rfl, hr, hfr, hb⟩
    exact HK.out _ _ ⟨ra, rc, rfl, hr, hr.foot hfr⟩ hb
  simp only [List.nil_append, List.cons_append]
  refine step_of (rbF _ (f10) (true)) (rbF_good _ _ _) ?_ ?_
  · intro a W Zs hS hFm hz hd
    obtain ⟨a19, c19, e19, r19, f19⟩ := hd 4 19 rfl rfl
    have h19 := ev_get hFm.size e19
    refine .inl ⟨wanted_none rfl _, fun K hK => ?_⟩
    have HK := Lib.hid hK
    clear hd hFm hK
    go_simp
    exact HK.out _ _ ⟨a19, c19, rfl, r19, ft_mono f19 (foot_dep 4 rfl rfl rfl)⟩ (Below.refl _ _)
  simp only [List.nil_append, List.cons_append]
  refine step_of (frF _ (f10)) (frF_good _ _) ?_ ?_
  · intro a W Zs hS hFm hz hd
    obtain ⟨a14, c14, e14, r14, f14⟩ := hd 5 14 rfl rfl
    have h14 := ev_get hFm.size e14
    refine .inl ⟨wanted_none rfl _, fun K hK => ?_⟩
    have HK := Lib.hid hK
    clear hd hFm hK
    go_simp
    exact HK.out _ _ ⟨a14, c14, rfl, r14, ft_mono f14 (foot_dep 5 rfl rfl rfl)⟩ (Below.refl _ _)
  simp only [List.nil_append, List.cons_append]
  apply step_fix
  · intro a W Zs hS hFm hz hd
    obtain ⟨a14, c14, e14, r14, f14⟩ := hd 5 14 rfl rfl
    have h14 := ev_get hFm.size e14
    refine .inl ⟨wanted_none rfl _, fun K hK => ?_⟩
    have HK := Lib.hid hK
    clear hd hFm hK
    go_simp
    exact HK.out _ _ rfl (Below.refl _ _)
  simp only [List.nil_append, List.cons_append]
  refine step_of (boxF _ 29 6) (boxF_good _ _ _) ?_ ?_
  · intro a W Zs hS hFm hz hd
    refine .inl ⟨wanted_none rfl _, fun K hK => ?_⟩
    have HK := Lib.hid hK
    clear hd hFm hK
    go_simp
    exact HK.out _ _ ⟨_, _, rfl, rfl, Blk.new _ _ _, .inl ⟨Nat.le_refl _, by simp⟩⟩ (alloc_below _ _)
  simp only [List.nil_append, List.cons_append]
  refine step_of (frBoxF _ (f10)) (frBoxF_good _ _) ?_ ?_
  · intro a W Zs hS hFm hz hd hap
    obtain ⟨b4, cs4, e4, n4, q4, z4⟩ := hd 8 4 rfl rfl
    have h4 := ev_get hFm.size e4
    obtain ⟨a20, c20, e20, r20, f20⟩ := hd 6 20 rfl rfl
    have h20 := ev_get hFm.size e20
    have hB0 := (hz 8 _ rfl z4).1
    obtain ⟨u0, u1, u2, u3, u4, u5, rfl⟩ := arr6 n4
    have hq := q4.at
    have hfz := q4.frozen
    refine ⟨wanted_none rfl _, b4, z4, fun K hK => ?_⟩
    have HK := Lib.hid hK
    clear hd hFm hK
    go_simp
    exact HK.out undef _ (Only.fill6 _ _ _ _ _ _ _ _) (fun d hd' => by injection hd' with hd'; subst hd'; exact ⟨⟨b4, a20, c20, e4, q4.fill6 _ _ _ _ _ _, r20.agree f20 (store_apart (Only.fill6 W b4 _ _ _ _ _ _) hB0 z4 hap 6 rfl (by decide)), .inr (.inl rfl), ft_mono f20 (foot_depS 6 rfl rfl rfl)⟩, ⟨b4, _, e4, rfl, q4.fill6 _ _ _ _ _ _, z4⟩⟩)
  simp only [List.nil_append, List.cons_append]
  apply step_fix
  · intro a W Zs hS hFm hz hd
    have h21 := ev_get hFm.size (hd 7 21 rfl rfl)
    refine .inl ⟨wanted_none rfl _, fun K hK => ?_⟩
    have HK := Lib.hid hK
    clear hd hFm hK
    go_simp
    exact HK.out _ _ rfl (Below.refl _ _)
  simp only [List.nil_append, List.cons_append]
  intro a w4 Zs hS hFm hz hd
  obtain ⟨b4, a4, c4, e4, q4, r4, f4, g4⟩ := hd 9 4 (by decide) rfl
  obtain ⟨bz, csz, ez, nz, qz, zz⟩ := hd 8 4 (by decide) rfl
  have nb4 := ptr_new ez e4 (hz 8 (by decide) bz zz)
  clear zz qz nz ez
  clear csz bz
  have e5 := hd 10 5 (by decide) rfl
  have e0 := hFm.old 0 rfl
  conv at e0 => rhs; whnf
  have e1 := hFm.old 1 rfl
  conv at e1 => rhs; whnf
  have e2 := hFm.old 2 rfl
  conv at e2 => rhs; whnf
  have e3 := hFm.old 3 rfl
  conv at e3 => rhs; whnf
  have e6 := hFm.old 6 rfl
  conv at e6 => rhs; whnf
  have e7 := hFm.old 7 rfl
  conv at e7 => rhs; whnf
  have e8 := hFm.old 8 rfl
  conv at e8 => rhs; whnf
  have e9 := hFm.old 9 rfl
  conv at e9 => rhs; whnf
  have e10 := hFm.old 10 rfl
  conv at e10 => rhs; whnf
  have e11 := hFm.old 11 rfl
  conv at e11 => rhs; whnf
  have e12 := hFm.old 12 rfl
  conv at e12 => rhs; whnf
  have e13 := hFm.old 13 rfl
  conv at e13 => rhs; whnf
  have e22 := hFm.old 22 rfl
  conv at e22 => rhs; whnf
  have e23 := hFm.old 23 rfl
  conv at e23 => rhs; whnf
  have e24 := hFm.old 24 rfl
  conv at e24 => rhs; whnf
  have e25 := hFm.old 25 rfl
  conv at e25 => rhs; whnf
  have e26 := hFm.old 26 rfl
  conv at e26 => rhs; whnf
  have e27 := hFm.old 27 rfl
  conv at e27 => rhs; whnf
  have e28 := hFm.old 28 rfl
  conv at e28 => rhs; whnf
  have e29 := hFm.old 29 rfl
  conv at e29 => rhs; whnf
  have e30 := hFm.old 30 rfl
  conv at e30 => rhs; whnf
  have e31 := hFm.old 31 rfl
  conv at e31 => rhs; whnf
  have e32 := hFm.old 32 rfl
  conv at e32 => rhs; whnf
  have e33 := hFm.old 33 rfl
  conv at e33 => rhs; whnf
  have e34 := hFm.old 34 rfl
  conv at e34 => rhs; whnf
  have e35 := hFm.old 35 rfl
  conv at e35 => rhs; whnf
  have e36 := hFm.old 36 rfl
  conv at e36 => rhs; whnf
  have hsz := hFm.size
  have hdf := hFm.defers
  clear hd hFm
  obtain ⟨t, df⟩ := a
  simp only at hsz hdf
  subst hdf
  obtain ⟨x, hx⟩ : ∃ x : Nat → Value, ∀ i, t.getD i undef = x i := ⟨fun i => t.getD i undef, fun _ => rfl⟩
  have h4 := (hx 4).symm.trans e4
  have h5 := (hx 5).symm.trans e5
  have h0 := (hx 0).symm.trans e0
  have h1 := (hx 1).symm.trans e1
  have h2 := (hx 2).symm.trans e2
  have h3 := (hx 3).symm.trans e3
  have h6 := (hx 6).symm.trans e6
  have h7 := (hx 7).symm.trans e7
  have h8 := (hx 8).symm.trans e8
  have h9 := (hx 9).symm.trans e9
  have h10 := (hx 10).symm.trans e10
  have h11 := (hx 11).symm.trans e11
  have h12 := (hx 12).symm.trans e12
  have h13 := (hx 13).symm.trans e13
  have h22 := (hx 22).symm.trans e22
  have h23 := (hx 23).symm.trans e23
  have h24 := (hx 24).symm.trans e24
  have h25 := (hx 25).symm.trans e25
  have h26 := (hx 26).symm.trans e26
  have h27 := (hx 27).symm.trans e27
  have h28 := (hx 28).symm.trans e28
  have h29 := (hx 29).symm.trans e29
  have h30 := (hx 30).symm.trans e30
  have h31 := (hx 31).symm.trans e31
  have h32 := (hx 32).symm.trans e32
  have h33 := (hx 33).symm.trans e33
  have h34 := (hx 34).symm.trans e34
  have h35 := (hx 35).symm.trans e35
  have h36 := (hx 36).symm.trans e36
  have ht' : t = #[x 0, x 1, x 2, x 3, x 4, x 5, x 6, x 7, x 8, x 9, x 10, x 11, x 12, x 13, x 14, x 15, x 16, x 17, x 18, x 19, x 20, x 21, x 22, x 23, x 24, x 25, x 26, x 27, x 28, x 29, x 30, x 31, x 32, x 33, x 34, x 35, x 36] := frame_lit t 37 hsz x hx
  clear hx hsz hz e4 e5 e0 e1 e2 e3 e6 e7 e8 e9 e10 e11 e12 e13 e22 e23 e24 e25 e26 e27 e28 e29 e30 e31 e32 e33 e34 e35 e36
  subst ht'
  (try dsimp only)
  rw [h4, h5, h0, h1, h2, h3, h6, h7, h8, h9, h10, h11, h12, h13, h22, h23, h24, h25, h26, h27, h28, h29, h30, h31, h32, h33, h34, h35, h36]
  clear h4 h5 h0 h1 h2 h3 h6 h7 h8 h9 h10 h11 h12 h13 h22 h23 h24 h25 h26 h27 h28 h29 h30 h31 h32 h33 h34 h35 h36
  rw [undef_fold]
  have hb := from_drew hS
  replace hB := hB.trans (hb.mono hB.size)
  have q4' : Blk w4 b4 29 #[.int .i64 1, .int .i64 0, .int .i64 2, .int .i64 0, .int .i64 0, .slice a4 0 c4] := q4
  have hq4 := q4'.at
  clear hS hb q4 q4' hC HR HT r4
  go_wp2
  go_ret
  exact ⟨rfl, hB⟩

/-- A side as the document's. -/
theorem of10_any (x : Sd) (w : World) : Calls Tryd.prog 23 #[.agg #[.string ⟨x.D.toArray⟩, .string ⟨x.S.toArray⟩, .string ⟨x.O.toArray⟩, .int .i64 x.F]] w fun e w' => e = .returned (.agg #[.string ⟨x.D.toArray⟩, .string ⟨x.S.toArray⟩, .string ⟨x.O.toArray⟩, .int .i64 x.F]) ∧ Below w.heap.size w w' := by
  have hB : Below w.heap.size w ((w.alloc (.cells #[.string ⟨x.D.toArray⟩, .string ⟨x.S.toArray⟩, .string ⟨x.O.toArray⟩, .int .i64 x.F] 45)).alloc (.cells #[.string ⟨#[]⟩, .string ⟨#[]⟩, .string ⟨#[]⟩, .int .i64 0] 49)) := (alloc_below w _).alloc (by simp) _
  have hS : Blk ((w.alloc (.cells #[.string ⟨x.D.toArray⟩, .string ⟨x.S.toArray⟩, .string ⟨x.O.toArray⟩, .int .i64 x.F] 45)).alloc (.cells #[.string ⟨#[]⟩, .string ⟨#[]⟩, .string ⟨#[]⟩, .int .i64 0] 49)) w.heap.size 45 (#[.string ⟨x.D.toArray⟩, .string ⟨x.S.toArray⟩, .string ⟨x.O.toArray⟩, .int .i64 x.F]) := (Blk.new w _ _).alloc _
  have hZ : Blk ((w.alloc (.cells #[.string ⟨x.D.toArray⟩, .string ⟨x.S.toArray⟩, .string ⟨x.O.toArray⟩, .int .i64 x.F] 45)).alloc (.cells #[.string ⟨#[]⟩, .string ⟨#[]⟩, .string ⟨#[]⟩, .int .i64 0] 49)) (w.heap.size + 1) 49 #[.string ⟨#[]⟩, .string ⟨#[]⟩, .string ⟨#[]⟩, .int .i64 0] := Blk.newAt _ _ (by simp)
  go_enter Tryd.func23, Tryd.ntmps23
  go_upto_region 1 with fail
  generalize ((w.alloc (.cells #[.string ⟨x.D.toArray⟩, .string ⟨x.S.toArray⟩, .string ⟨x.O.toArray⟩, .int .i64 x.F] 45)).alloc (.cells #[.string ⟨#[]⟩, .string ⟨#[]⟩, .string ⟨#[]⟩, .int .i64 0] 49)) = w1 at *
  have hq := hS.at
  have hqz := hZ.at
  have hfz := hZ.frozen
  go_wp2
  have k0 : Blk (w1.setCell ⟨w.heap.size + 1, 0, none⟩ (.string ⟨x.D.toArray⟩)) (w.heap.size + 1) 49 #[.string ⟨x.D.toArray⟩, .string ⟨#[]⟩, .string ⟨#[]⟩, .int .i64 0] := hZ.set 0 _
  have k1 : Blk ((w1.setCell ⟨w.heap.size + 1, 0, none⟩ (.string ⟨x.D.toArray⟩)).setCell ⟨w.heap.size + 1, 1, none⟩ (.string ⟨x.S.toArray⟩)) (w.heap.size + 1) 49 #[.string ⟨x.D.toArray⟩, .string ⟨x.S.toArray⟩, .string ⟨#[]⟩, .int .i64 0] := k0.set 1 _
  have k2 : Blk (((w1.setCell ⟨w.heap.size + 1, 0, none⟩ (.string ⟨x.D.toArray⟩)).setCell ⟨w.heap.size + 1, 1, none⟩ (.string ⟨x.S.toArray⟩)).setCell ⟨w.heap.size + 1, 2, none⟩ (.string ⟨x.O.toArray⟩)) (w.heap.size + 1) 49 #[.string ⟨x.D.toArray⟩, .string ⟨x.S.toArray⟩, .string ⟨x.O.toArray⟩, .int .i64 0] := k1.set 2 _
  have k3 : Blk ((((w1.setCell ⟨w.heap.size + 1, 0, none⟩ (.string ⟨x.D.toArray⟩)).setCell ⟨w.heap.size + 1, 1, none⟩ (.string ⟨x.S.toArray⟩)).setCell ⟨w.heap.size + 1, 2, none⟩ (.string ⟨x.O.toArray⟩)).setCell ⟨w.heap.size + 1, 3, none⟩ (.int .i64 x.F)) (w.heap.size + 1) 49 (#[.string ⟨x.D.toArray⟩, .string ⟨x.S.toArray⟩, .string ⟨x.O.toArray⟩, .int .i64 x.F]) := k2.set 3 _
  have hB2 := (((hB.setCell (p := ⟨w.heap.size + 1, 0, none⟩) (by simp) (.string ⟨x.D.toArray⟩)).setCell (p := ⟨w.heap.size + 1, 1, none⟩) (by simp) (.string ⟨x.S.toArray⟩)).setCell (p := ⟨w.heap.size + 1, 2, none⟩) (by simp) (.string ⟨x.O.toArray⟩)).setCell (p := ⟨w.heap.size + 1, 3, none⟩) (by simp) (.int .i64 x.F)
  generalize (((w1.setCell _ _).setCell _ _).setCell _ _).setCell _ _ = W at *
  have q := k3.at
  simp at q
  exact bodyPost_ret (v := .agg #[.string ⟨x.D.toArray⟩, .string ⟨x.S.toArray⟩, .string ⟨x.O.toArray⟩, .int .i64 x.F]) (by simp [results, Tryd.results23, go_sem, q]) rfl ⟨rfl, hB2⟩

theorem okR {d : Cf} {g : Fr} (h : g.Ok d) (R : Int) (r0 : 0 ≤ R) (r1 : R < 65536) : ({ g with R := R } : Fr).Ok d :=
  ⟨h.s0, h.s1, r0, r1, h.k1, h.k3, h.kp, h.p, h.pz, h.len, h.all⟩
theorem wireI_range (d : Cf) (r : Int) : 0 ≤ wireI d r ∧ wireI d r < 65536 := by unfold wireI; omega
theorem RowT.ltT {w : World} {a : Option Addr} {ts : List It} (h : RowT w a ts) : ts = [] ∨ ∀ x, a = some x → x.block < w.heap.size := by
  rcases h.2.2 with h3 | ⟨b, off, rfl, hlt, _⟩
  · exact .inl h3
  · exact .inr fun x hx => by injection hx with hx; subst hx; exact hlt
theorem Row.ltR {w : World} {a : Option Addr} {zs : List Int} (h : Row w a zs) : zs = [] ∨ ∀ x, a = some x → x.block < w.heap.size := by
  rcases h.2.2 with h3 | ⟨b, off, rfl, hlt, _⟩
  · exact .inl h3
  · exact .inr fun x hx => by injection hx with hx; subst hx; exact hlt

theorem Row.farR {w : World} {a : Option Addr} {zs : List Int} (h : Row w a zs) (g i : Nat) (u : Value) (hne : zs = [] ∨ ∀ x, a = some x → x.block ≠ g) : Row (w.setCell ⟨g, i, none⟩ u) a zs := by
  rcases hne with e | hne
  · subst e; exact Row.empty _ _
  · exact h.far g i u hne

end Go.Proofs.YtkflijbhlibadabDoor
/-
  Two frames that a law of chapter 10 makes ready: their boxes, their rows, their rounds.
-/
namespace Go.Proofs.YtkflijbhlibadabDoor
open Go.RowKit Plait
set_option maxRecDepth 100000
set_option linter.unusedVariables false
set_option linter.unusedSimpArgs false

/-- A row of four items or more is in no block of six cells. -/
theorem rowT_box {W : World} {a : Option Addr} {ts : List It} {b : Nat} {t : TypeId} {cs : Array Value} (h : RowT W a ts) (hb : Blk W b t cs) (h6 : cs.size = 6) (h4 : ts = [] ∨ 4 ≤ ts.length) : ts = [] ∨ ∀ x, a = some x → x.block ≠ b := by
  rcases h4 with e | h4
  · exact .inl e
  · right
    intro x hx e
    rcases h.2.2 with h3 | ⟨b2, off, rfl, hlt, hc⟩
    · rw [h3] at h4; simp at h4
    · injection hx with hx
      subst hx
      have e2 : b2 = b := e
      subst e2
      have := (hc 3 (by omega)).2
      rw [hb.at] at this
      rw [Array.getElem?_eq_none (by omega)] at this
      cases this
theorem ok_echo {c : Cf} {f : Fr} (hc : c.Ok) (h : f.Ok c) : f.E = [] ∨ 4 ≤ f.E.length := by
  have n6 := hc.n6
  have hl := h.len
  unfold echoI slotsI at hl
  split at hl
  · right; omega
  · left; exact List.eq_nil_of_length_eq_zero (by omega)
theorem blk_again {W : World} {g g2 k : Nat} {t : TypeId} {cs : Array Value} {u : Value} (h : Blk W g t (cs.setIfInBounds k u)) : Blk (W.setCell ⟨g2, k, none⟩ u) g t (cs.setIfInBounds k u) := by
  by_cases e : g = g2
  · subst e
    have := h.set k u
    rw [Array.setIfInBounds_setIfInBounds] at this
    exact this
  · exact h.far (p := ⟨g2, k, none⟩) e u

/-- What stands while two frames are made ready. -/
structure T7 (d : Cf) (da : Option Addr) (dc db xb yb : Nat) (X Y : Fr) (xa : Option Addr) (xc : Nat) (ya : Option Addr) (yc : Nat) (w W : World) : Prop where
  hB : Below w.heap.size w W
  hD : Blk W db 24 (confBox d da dc)
  hrd : Row W da d.P
  hX : Blk W xb 29 (frBox X xa xc)
  hY : Blk W yb 29 (frBox Y ya yc)
  hrx : RowT W xa X.E
  hry : RowT W ya Y.E
  lx : w.heap.size ≤ xb
  ly : w.heap.size ≤ yb
  dx : db ≠ xb ∧ db ≠ yb
  rd : d.P = [] ∨ ∀ x, da = some x → x.block ≠ xb ∧ x.block ≠ yb
  rx : X.E = [] ∨ ∀ x, xa = some x → x.block ≠ xb ∧ x.block ≠ yb
  ry : Y.E = [] ∨ ∀ x, ya = some x → x.block ≠ xb ∧ x.block ≠ yb
theorem T7.later {d : Cf} {da : Option Addr} {dc db xb yb : Nat} {X Y : Fr} {xa : Option Addr} {xc : Nat} {ya : Option Addr} {yc : Nat} {w W W' : World} (h : T7 d da dc db xb yb X Y xa xc ya yc w W) (hb : Below W.heap.size W W') : T7 d da dc db xb yb X Y xa xc ya yc w W' :=
  ⟨h.hB.trans (hb.mono h.hB.size), h.hD.later hb, h.hrd.later hb, h.hX.later hb, h.hY.later hb, h.hrx.later hb, h.hry.later hb, h.lx, h.ly, h.dx, h.rd, h.rx, h.ry⟩
theorem T7.wire {d : Cf} {da : Option Addr} {dc db xb yb : Nat} {X Y : Fr} {xa : Option Addr} {xc : Nat} {ya : Option Addr} {yc : Nat} {w W : World} (h : T7 d da dc db xb yb X Y xa xc ya yc w W) (R : Int) :
    T7 d da dc db xb yb { X with R := R } { Y with R := R } xa xc ya yc w ((W.setCell ⟨xb, 1, none⟩ (.int .i64 R)).setCell ⟨yb, 1, none⟩ (.int .i64 R)) := by
  have e1 : Blk (W.setCell ⟨xb, 1, none⟩ (.int .i64 R)) xb 29 ((frBox X xa xc).setIfInBounds 1 (.int .i64 R)) := h.hX.set 1 _
  have e2 : Blk ((W.setCell ⟨xb, 1, none⟩ (.int .i64 R)).setCell ⟨yb, 1, none⟩ (.int .i64 R)) yb 29 ((frBox Y ya yc).setIfInBounds 1 (.int .i64 R)) := by
    by_cases e : yb = xb
    · subst e
      have := (h.hY.set 1 (.int .i64 R)).set 1 (.int .i64 R)
      rw [Array.setIfInBounds_setIfInBounds] at this
      exact this
    · exact (h.hY.far (p := ⟨xb, 1, none⟩) e _).set 1 _
  refine ⟨(h.hB.setCell (p := ⟨xb, 1, none⟩) h.lx _).setCell (p := ⟨yb, 1, none⟩) h.ly _, (h.hD.far (p := ⟨xb, 1, none⟩) h.dx.1 _).far (p := ⟨yb, 1, none⟩) h.dx.2 _, (h.hrd.farR xb 1 _ (h.rd.imp id fun q x e => (q x e).1)).farR yb 1 _ (h.rd.imp id fun q x e => (q x e).2),
    blk_again e1, e2, (h.hrx.far2 xb 1 _ (h.rx.imp id fun q x e => (q x e).1)).far2 yb 1 _ (h.rx.imp id fun q x e => (q x e).2), (h.hry.far2 xb 1 _ (h.ry.imp id fun q x e => (q x e).1)).far2 yb 1 _ (h.ry.imp id fun q x e => (q x e).2), h.lx, h.ly, h.dx, h.rd, h.rx, h.ry⟩

theorem T7.mid {d : Cf} {da : Option Addr} {dc db xb yb : Nat} {X Y : Fr} {xa : Option Addr} {xc : Nat} {ya : Option Addr} {yc : Nat} {w W : World} (h : T7 d da dc db xb yb X Y xa xc ya yc w W) (R : Int) :
    ∃ v, (W.setCell ⟨xb, 1, none⟩ (.int .i64 R)).cell? ⟨yb, 1, none⟩ = some v ∧ ∀ i, (W.setCell ⟨xb, 1, none⟩ (.int .i64 R)).frozen? ⟨yb, i, none⟩ = false := by
  by_cases e : yb = xb
  · subst e
    have e1 : Blk (W.setCell ⟨yb, 1, none⟩ (.int .i64 R)) yb 29 ((frBox Y ya yc).setIfInBounds 1 (.int .i64 R)) := h.hY.set 1 _
    exact ⟨.int .i64 R, (e1.at 1).trans rfl, e1.frozen⟩
  · have e1 := h.hY.far (p := ⟨xb, 1, none⟩) e (.int .i64 R)
    exact ⟨.int .i64 Y.R, (e1.at 1).trans rfl, e1.frozen⟩

end Go.Proofs.YtkflijbhlibadabDoor
