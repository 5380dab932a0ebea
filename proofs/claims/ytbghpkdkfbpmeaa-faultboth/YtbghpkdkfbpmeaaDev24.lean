/-
  Contracts of package fault, fourth part: the frames that a locus makes.
-/
import Derived.Test.YtbghpkdkfbpmeaaDev22
namespace Go.Proofs.Ytbghpkdkfbpmeaa
open Go.RowKit Plait
set_option maxRecDepth 100000
set_option linter.unusedVariables false
set_option linter.unusedSimpArgs false

/-- A frame laid into a result's place. -/
theorem fr_end (f : Fr) (w wr : World) (rb : Nat) (av : Option Addr) (cv : Nat) (hB : Below w.heap.size w wr) (hrb : w.heap.size ≤ rb) (k2 : Blk wr rb 82 zeroBox) (hr : RowT wr av f.E) (hne : f.E = [] ∨ ∀ x, av = some x → x.block ≠ rb) :
    Blk ((((((wr.setCell ⟨rb, 0, none⟩ (.int .i64 f.K)).setCell ⟨rb, 1, none⟩ (.int .i64 f.R)).setCell ⟨rb, 2, none⟩ (.int .i64 f.S)).setCell ⟨rb, 3, none⟩ (.int .i64 f.P.K)).setCell ⟨rb, 4, none⟩ (.int .i64 f.P.V)).setCell ⟨rb, 5, none⟩ (.slice av f.E.length cv)) rb 82 (frBox f av cv) ∧
    Below w.heap.size w ((((((wr.setCell ⟨rb, 0, none⟩ (.int .i64 f.K)).setCell ⟨rb, 1, none⟩ (.int .i64 f.R)).setCell ⟨rb, 2, none⟩ (.int .i64 f.S)).setCell ⟨rb, 3, none⟩ (.int .i64 f.P.K)).setCell ⟨rb, 4, none⟩ (.int .i64 f.P.V)).setCell ⟨rb, 5, none⟩ (.slice av f.E.length cv)) ∧
    RowT ((((((wr.setCell ⟨rb, 0, none⟩ (.int .i64 f.K)).setCell ⟨rb, 1, none⟩ (.int .i64 f.R)).setCell ⟨rb, 2, none⟩ (.int .i64 f.S)).setCell ⟨rb, 3, none⟩ (.int .i64 f.P.K)).setCell ⟨rb, 4, none⟩ (.int .i64 f.P.V)).setCell ⟨rb, 5, none⟩ (.slice av f.E.length cv)) av f.E := by
  unfold zeroBox at k2
  refine ⟨((((((k2.set 0 (.int .i64 f.K)).set 1 (.int .i64 f.R)).set 2 (.int .i64 f.S)).set 3 (.int .i64 f.P.K)).set 4 (.int .i64 f.P.V)).set 5 (.slice av f.E.length cv)), ?_, ?_⟩
  · exact (((((hB.setCell (p := ⟨rb, 0, none⟩) hrb (.int .i64 f.K)).setCell (p := ⟨rb, 1, none⟩) hrb (.int .i64 f.R)).setCell (p := ⟨rb, 2, none⟩) hrb (.int .i64 f.S)).setCell
      (p := ⟨rb, 3, none⟩) hrb (.int .i64 f.P.K)).setCell (p := ⟨rb, 4, none⟩) hrb (.int .i64 f.P.V)).setCell (p := ⟨rb, 5, none⟩) hrb (.slice av f.E.length cv)
  · exact (((((hr.far2 rb 0 _ hne).far2 rb 1 _ hne).far2 rb 2 _ hne).far2 rb 3 _ hne).far2 rb 4 _ hne).far2 rb 5 _ hne

/-- What holds in fresh's loop. -/
structure FreshAt (w : World) (R s : Int) (n g base k : Nat) (v : Value) (W : World) : Prop where
  kn : k ≤ n
  bel : Below w.heap.size w W
  zero : Blk W (w.heap.size + 1) 82 zeroBox
  item : Blk W (w.heap.size + 2) 79 #[.int .i64 1, .int .i64 0]
  box : Blk W g 82 (MakeV 3 R s 1 0 v)
  own : OwnT base W v (List.replicate k ⟨1, 0⟩)
  big : base ≤ W.heap.size

set_option maxHeartbeats 1600000 in
theorem lfresh_any (c : Cf) (ca : Option Addr) (cc : Nat) (r s : Int) (w : World) (hc : c.Ok) (r0 : 0 ≤ r) (r1 : r ≤ 1099511627776) :
    Calls Try.prog 54 #[.agg #[.int .i64 c.N, .int .i64 c.Pi, .int .i64 c.E, .int .i64 c.G, .int .i64 c.F, .slice ca c.P.length cc], .int .i64 r, .int .i64 s] w (FrRet (freshF c r s) w) := by
  have hB0 : Below w.heap.size w ((w.alloc (.cells #[.int .i64 c.N, .int .i64 c.Pi, .int .i64 c.E, .int .i64 c.G, .int .i64 c.F, .slice ca c.P.length cc] 24)).alloc (.cells zeroBox 82)) := (alloc_below w _).alloc (by simp) _
  have hC0 : Blk ((w.alloc (.cells #[.int .i64 c.N, .int .i64 c.Pi, .int .i64 c.E, .int .i64 c.G, .int .i64 c.F, .slice ca c.P.length cc] 24)).alloc (.cells zeroBox 82)) w.heap.size 24 (confBox c ca cc) := (Blk.new w _ _).alloc _
  have hZ0 : Blk ((w.alloc (.cells #[.int .i64 c.N, .int .i64 c.Pi, .int .i64 c.E, .int .i64 c.G, .int .i64 c.F, .slice ca c.P.length cc] 24)).alloc (.cells zeroBox 82)) (w.heap.size + 1) 82 zeroBox := Blk.newAt _ _ (by simp)
  have HW := Lib.hid (fun W => cwire_any c ca cc r W hc r0 r1)
  have HS := Lib.hid (fun W => cslots_any c ca cc W hc)
  have h6 := hc.n6
  have h12 := hc.n12
  have hsl : 6 ≤ slotsI c ∧ slotsI c ≤ 15 := by have := hc.len; unfold slotsI; omega
  have HF := Lib.hid (show freshF c r s = ⟨3, wireI c r, s, ⟨1, 0⟩, if s < c.N then List.replicate (slotsI c).toNat ⟨1, 0⟩ else []⟩ from rfl)
  generalize wireI c r = R at *
  obtain ⟨hs6, hs15⟩ := hsl
  go_enter Try.func54, Try.ntmps54
  go_upto_region 2 with fail
  have kB : Below w.heap.size w (((w.alloc (.cells #[.int .i64 c.N, .int .i64 c.Pi, .int .i64 c.E, .int .i64 c.G, .int .i64 c.F, .slice ca c.P.length cc] 24)).alloc (.cells zeroBox 82)).alloc (.cells #[.int .i64 1, .int .i64 0] 79)) := hB0.alloc hB0.size _
  have kC := hC0.alloc (.cells #[.int .i64 1, .int .i64 0] 79)
  have kZ := hZ0.alloc (.cells #[.int .i64 1, .int .i64 0] 79)
  have kI : Blk (((w.alloc (.cells #[.int .i64 c.N, .int .i64 c.Pi, .int .i64 c.E, .int .i64 c.G, .int .i64 c.F, .slice ca c.P.length cc] 24)).alloc (.cells zeroBox 82)).alloc (.cells #[.int .i64 1, .int .i64 0] 79)) (w.heap.size + 2) 79 #[.int .i64 1, .int .i64 0] := Blk.newAt _ _ (by simp)
  clear hB0 hC0 hZ0
  unfold zeroBox at kB kC kI
  conv at kZ => arg 1; unfold zeroBox
  have hsz2 : w.heap.size + 1 + 1 = w.heap.size + 2 := rfl
  rw [hsz2]
  generalize (((w.alloc (.cells #[.int .i64 c.N, .int .i64 c.Pi, .int .i64 c.E, .int .i64 c.G, .int .i64 c.F, .slice ca c.P.length cc] 24)).alloc (.cells #[.int .i64 0, .int .i64 0, .int .i64 0, .int .i64 0, .int .i64 0, .slice none 0 0] 82)).alloc (.cells #[.int .i64 1, .int .i64 0] 79)) = w1 at *
  refine region_slots [some 10, some 11, some 12, some 13, some 14, some 15, some 8, none] [none, none, none, none, none, none, none, some 6] 37 8 rfl (by kernel_rfl) (by kernel_rfl) rfl rfl ?_
  apply step_fix
  · intro a W Zs hS hFm hz hd
    have h3 := hFm.old 3 rfl
    conv at h3 => rhs; whnf
    replace h3 := ev_get hFm.size h3
    have hq := (kC.drew1.later hS).at
    unfold confBox at hq
    refine .inl ⟨wanted_none rfl _, fun K hK => ?_⟩
    have HK := Lib.hid hK
    clear hd hFm hK
    go_simp
    exact HK.out _ _ rfl (Below.refl _ _)
  simp only [List.nil_append, List.cons_append]
  apply step_fix
  · intro a W Zs hS hFm hz hd
    have h1 := hFm.old 1 rfl
    conv at h1 => rhs; whnf
    replace h1 := ev_get hFm.size h1
    refine .inl ⟨wanted_none rfl _, fun K hK => ?_⟩
    have HK := Lib.hid hK
    clear hd hFm hK
    go_simp
    exact HK.out _ _ rfl (Below.refl _ _)
  simp only [List.nil_append, List.cons_append]
  apply step_fix
  · intro a W Zs hS hFm hz hd
    have h10 := ev_get hFm.size (hd 0 10 rfl rfl)
    have h11 := ev_get hFm.size (hd 1 11 rfl rfl)
    refine .inl ⟨wanted_none rfl _, fun K hK => ?_⟩
    have HK := Lib.hid hK
    clear hd hFm hK
    go_simp
    refine (HW.out _).mono ?_
    rintro e W' ⟨rfl, hb⟩
    exact HK.out _ _ rfl hb
  simp only [List.nil_append, List.cons_append]
  apply step_fix
  · intro a W Zs hS hFm hz hd
    have h2 := hFm.old 2 rfl
    conv at h2 => rhs; whnf
    replace h2 := ev_get hFm.size h2
    refine .inl ⟨wanted_none rfl _, fun K hK => ?_⟩
    have HK := Lib.hid hK
    clear hd hFm hK
    go_simp
    exact HK.out _ _ rfl (Below.refl _ _)
  simp only [List.nil_append, List.cons_append]
  apply step_fix
  · intro a W Zs hS hFm hz hd
    have h7 := hFm.old 7 rfl
    conv at h7 => rhs; whnf
    replace h7 := ev_get hFm.size h7
    have hq := (kI.drew1.later hS).at
    refine .inl ⟨wanted_none rfl _, fun K hK => ?_⟩
    have HK := Lib.hid hK
    clear hd hFm hK
    go_simp
    exact HK.out _ _ rfl (Below.refl _ _)
  simp only [List.nil_append, List.cons_append]
  apply step_fix
  · intro a W Zs hS hFm hz hd
    have h12 := ev_get hFm.size (hd 2 12 rfl rfl)
    have h13 := ev_get hFm.size (hd 3 13 rfl rfl)
    have h14 := ev_get hFm.size (hd 4 14 rfl rfl)
    refine .inl ⟨wanted_none rfl _, fun K hK => ?_⟩
    have HK := Lib.hid hK
    clear hd hFm hK
    go_simp
    exact HK.out _ _ rfl (Below.refl _ _)
  simp only [List.nil_append, List.cons_append]
  refine step_of (boxF _ 82 6) (boxF_good _ _ _) ?_ ?_
  · intro a W Zs hS hFm hz hd
    refine .inl ⟨wanted_none rfl _, fun K hK => ?_⟩
    have HK := Lib.hid hK
    clear hd hFm hK
    go_simp
    exact HK.out _ _ ⟨_, _, rfl, rfl, Blk.new _ _ _, .inl ⟨Nat.le_refl _, by simp⟩⟩ (alloc_below _ _)
  simp only [List.nil_append, List.cons_append]
  apply step_lit
  · intro a W Zs hS hFm hz hd hap
    obtain ⟨b8, cs8, e8, n8, q8, z8⟩ := hd 6 8 rfl rfl
    have h8 := ev_get hFm.size e8
    have h15 := ev_get hFm.size (hd 5 15 rfl rfl)
    have hB0 := (hz 6 _ rfl z8).1
    obtain ⟨u0, u1, u2, u3, u4, u5, rfl⟩ := arr6 n8
    have hq := q8.at
    have hfz := q8.frozen
    refine ⟨wanted_none rfl _, b8, z8, fun K hK => ?_⟩
    have HK := Lib.hid hK
    clear hd hFm hK
    go_simp
    exact HK.out undef _ (Only.fill6 _ _ _ _ _ _ _ _) (fun d hd' => by injection hd' with hd'; subst hd'; exact ⟨⟨b8, e8, q8.fill6 _ _ _ _ _ _, .inr (.inl rfl)⟩, ⟨b8, _, e8, rfl, q8.fill6 _ _ _ _ _ _, z8⟩⟩)
  simp only [List.nil_append, List.cons_append]
  intro a w2 Zs hS hFm hz hd
  obtain ⟨b8, e8, q8, f8⟩ := hd 7 8 (by decide) rfl
  obtain ⟨bz, csz, ez, nz, qz, zz⟩ := hd 6 8 (by decide) rfl
  have nb8 := ptr_new ez e8 (hz 6 (by decide) bz zz)
  clear zz qz nz ez
  clear csz bz
  have e0 := hFm.old 0 rfl
  conv at e0 => rhs; whnf
  have e1 := hFm.old 1 rfl
  conv at e1 => rhs; whnf
  have e2 := hFm.old 2 rfl
  conv at e2 => rhs; whnf
  have e3 := hFm.old 3 rfl
  conv at e3 => rhs; whnf
  have e4 := hFm.old 4 rfl
  conv at e4 => rhs; whnf
  have e5 := hFm.old 5 rfl
  conv at e5 => rhs; whnf
  have e6 := hFm.old 6 rfl
  conv at e6 => rhs; whnf
  have e7 := hFm.old 7 rfl
  conv at e7 => rhs; whnf
  have e9 := hFm.old 9 rfl
  conv at e9 => rhs; whnf
  have e16 := hFm.old 16 rfl
  conv at e16 => rhs; whnf
  have e17 := hFm.old 17 rfl
  conv at e17 => rhs; whnf
  have e18 := hFm.old 18 rfl
  conv at e18 => rhs; whnf
  have e19 := hFm.old 19 rfl
  conv at e19 => rhs; whnf
  have e20 := hFm.old 20 rfl
  conv at e20 => rhs; whnf
  have e21 := hFm.old 21 rfl
  conv at e21 => rhs; whnf
  have e22 := hFm.old 22 rfl
  conv at e22 => rhs; whnf
  have e23 := hFm.old 23 rfl
  conv at e23 => rhs; whnf
  have e24 := hFm.old 24 rfl
  conv at e24 => rhs; whnf
  have e25 := hFm.old 25 rfl
  conv at e25 => rhs; whnf
  have e26 := hFm.old 26 rfl
  conv at e26 => rhs; whnf
  have e27 := hFm.old 27 rfl
  conv at e27 => rhs; whnf
  have e28 := hFm.old 28 rfl
  conv at e28 => rhs; whnf
  have e29 := hFm.old 29 rfl
  conv at e29 => rhs; whnf
  have e30 := hFm.old 30 rfl
  conv at e30 => rhs; whnf
  have e31 := hFm.old 31 rfl
  conv at e31 => rhs; whnf
  have e32 := hFm.old 32 rfl
  conv at e32 => rhs; whnf
  have e33 := hFm.old 33 rfl
  conv at e33 => rhs; whnf
  have e34 := hFm.old 34 rfl
  conv at e34 => rhs; whnf
  have e35 := hFm.old 35 rfl
  conv at e35 => rhs; whnf
  have e36 := hFm.old 36 rfl
  conv at e36 => rhs; whnf
  have hsz := hFm.size
  have hdf := hFm.defers
  clear hd hFm
  obtain ⟨t, df⟩ := a
  simp only at hsz hdf
  subst hdf
  obtain ⟨x, hx⟩ : ∃ x : Nat → Value, ∀ i, t.getD i undef = x i := ⟨fun i => t.getD i undef, fun _ => rfl⟩
  have h8 := (hx 8).symm.trans e8
  have h0 := (hx 0).symm.trans e0
  have h1 := (hx 1).symm.trans e1
  have h2 := (hx 2).symm.trans e2
  have h3 := (hx 3).symm.trans e3
  have h4 := (hx 4).symm.trans e4
  have h5 := (hx 5).symm.trans e5
  have h6 := (hx 6).symm.trans e6
  have h7 := (hx 7).symm.trans e7
  have h9 := (hx 9).symm.trans e9
  have h16 := (hx 16).symm.trans e16
  have h17 := (hx 17).symm.trans e17
  have h18 := (hx 18).symm.trans e18
  have h19 := (hx 19).symm.trans e19
  have h20 := (hx 20).symm.trans e20
  have h21 := (hx 21).symm.trans e21
  have h22 := (hx 22).symm.trans e22
  have h23 := (hx 23).symm.trans e23
  have h24 := (hx 24).symm.trans e24
  have h25 := (hx 25).symm.trans e25
  have h26 := (hx 26).symm.trans e26
  have h27 := (hx 27).symm.trans e27
  have h28 := (hx 28).symm.trans e28
  have h29 := (hx 29).symm.trans e29
  have h30 := (hx 30).symm.trans e30
  have h31 := (hx 31).symm.trans e31
  have h32 := (hx 32).symm.trans e32
  have h33 := (hx 33).symm.trans e33
  have h34 := (hx 34).symm.trans e34
  have h35 := (hx 35).symm.trans e35
  have h36 := (hx 36).symm.trans e36
  have ht' : t = #[x 0, x 1, x 2, x 3, x 4, x 5, x 6, x 7, x 8, x 9, x 10, x 11, x 12, x 13, x 14, x 15, x 16, x 17, x 18, x 19, x 20, x 21, x 22, x 23, x 24, x 25, x 26, x 27, x 28, x 29, x 30, x 31, x 32, x 33, x 34, x 35, x 36] := frame_lit t 37 hsz x hx
  clear hx hsz hz e8 e0 e1 e2 e3 e4 e5 e6 e7 e9 e16 e17 e18 e19 e20 e21 e22 e23 e24 e25 e26 e27 e28 e29 e30 e31 e32 e33 e34 e35 e36
  subst ht'
  dsimp only
  rw [h8, h0, h1, h2, h3, h4, h5, h6, h7, h9, h16, h17, h18, h19, h20, h21, h22, h23, h24, h25, h26, h27, h28, h29, h30, h31, h32, h33, h34, h35, h36]
  clear h8 h0 h1 h2 h3 h4 h5 h6 h7 h9 h16 h17 h18 h19 h20 h21 h22 h23 h24 h25 h26 h27 h28 h29 h30 h31 h32 h33 h34 h35 h36
  have hb2 := from_drew hS
  have hB := kB.trans (hb2.mono kB.size)
  have hC := kC.later hb2
  have hZ := kZ.later hb2
  have hI := kI.later hb2
  have hg1 : w1.heap.size ≤ b8 := nb8.1
  have hI1 := kI.lt
  clear hS hb2 kB kC kZ kI f8 nb8 HW
  have hQc := hC.at
  unfold confBox at hQc
  have hQg := q8.at
  have hQz := hZ.at
  unfold zeroBox at hQz
  have hFz := hZ.frozen
  by_cases hs : s < c.N
  · have d1 : decide (s < c.N) = true := by simpa using hs
    rw [if_pos hs] at HF
    go_wp2_with fail
    refine (HS.out _).mono ?_
    rintro e w3 ⟨rfl, hb⟩
    have hB3 := hB.trans (hb.mono hB.size)
    have hg3 : Blk w3 b8 82 (MakeV 3 R s 1 0 (.slice none 0 0)) := q8.later hb
    have hZ3 := hZ.later hb
    have hI3 := hI.later hb
    have hglt := hg3.lt
    clear hb hQc hQg hQz hFz q8 hZ hI hC hB
    go_wp2
    go_loopw [27] (fun i w' => ∃ (k : Nat) (v : Value), i = .int .i64 k ∧ FreshAt w R s (slotsI c).toNat b8 w3.heap.size k v w') (fun i _ => 15 - (intOf i).toNat)
    case atStart => exact ⟨0, _, rfl, ⟨Nat.zero_le _, hB3, hZ3, hI3, hg3, OwnT.nil _ _, Nat.le_refl _⟩⟩
    case round =>
      clear hg3 hZ3 hI3 hB3
      obtain ⟨k, v, rfl, hk, hB, hZ, hI, hg, hown, hbig⟩ := hrel
      have hll : (List.replicate k (⟨1, 0⟩ : It)).length ≤ 15 := by simp; omega
      have hin : ∀ t ∈ List.replicate k (⟨1, 0⟩ : It), inI t.K ∧ inI t.V := fun t ht => by rw [List.eq_of_mem_replicate ht]; exact ⟨⟨by show (-9223372036854775808 : Int) ≤ 1; omega, by show (1 : Int) ≤ 9223372036854775807; omega⟩, ⟨by show (-9223372036854775808 : Int) ≤ 0; omega, by show (0 : Int) ≤ 9223372036854775807; omega⟩⟩
      have HR := Lib.hid (show List.replicate (k + 1) (⟨1, 0⟩ : It) = List.replicate k ⟨1, 0⟩ ++ [⟨1, 0⟩] from List.replicate_succ')
      have hol := hown.lt
      have g0 := hg.at
      unfold MakeV at g0
      have gf := hg.frozen
      have i0 := hI.at
      by_cases hlt : (k : Int) < slotsI c
      · have d2 : decide ((k : Int) < slotsI c) = true := by simpa using hlt
        generalize List.replicate k (⟨1, 0⟩ : It) = TS at *
        obtain ⟨av, cv, rfl⟩ := hown.form
        go_wp2_with (first
          | (at_builtin; have hx1 := hown; refine wpList_appT _ rfl _ _ rfl w3.heap.size (.slice av TS.length cv) TS rfl (hown.later (alloc_below _ _)) wr.heap.size 1 ⟨1, 0⟩ rfl (heap_alloc_new _ _) (by omega) (by simp; omega) ?_; intro g5 cap5 w5 ho2 hg2 h3 h4; replace hZ := (hZ.alloc _).grown hg2 (fun e => by have := (hol _ e.symm).1; omega); replace hI := (hI.alloc _).grown hg2 (fun e => by have := (hol _ e.symm).1; omega); replace hg := (hg.alloc _).grown hg2 (fun e => by have := (hol _ e.symm).1; omega); replace hB := below_grown (hB.alloc hB.size _) (hB.alloc hB.size _).size hg2 (fun x hx => by have := (hol _ hx).1; omega); clear hx1 g0 gf i0; have g0 := hg.at; unfold MakeV at g0; have gf := hg.frozen; have hs5 := hg2.size; clear hown))
        go_roundw
        case rel =>
          refine ⟨k + 1, _, by go_num, ⟨by omega, hB.setCell (p := ⟨b8, 5, none⟩) (by show w.heap.size ≤ b8; omega) _, hZ.far (p := ⟨b8, 5, none⟩) (by show w.heap.size + 1 ≠ b8; omega) _, hI.far (p := ⟨b8, 5, none⟩) (by show w.heap.size + 2 ≠ b8; omega) _, hg.set 5 _, ?_, by simp [World.setCell] at hs5 ⊢; omega⟩⟩
          rw [HR.out]
          exact ho2.far ⟨b8, 5, none⟩ _ hglt
        case measure => simp [intOf]; omega
      · have d2 : decide ((k : Int) < slotsI c) = false := by simpa using hlt
        have hkk : (slotsI c).toNat = k := by omega
        rw [hkk] at HF
        clear hkk HR
        generalize List.replicate k (⟨1, 0⟩ : It) = TS at *
        obtain ⟨av, cv, rfl⟩ := hown.form
        have z0 := hZ.at
        unfold zeroBox at z0
        have zf := hZ.frozen
        go_wp2
        obtain ⟨kk, hb2, hr2⟩ := fr_end ⟨3, R, s, ⟨1, 0⟩, TS⟩ w wr (w.heap.size + 1) av cv hB (by omega) hZ (hown.row (by show TS.length ≤ _; omega) hin) (.inr fun x hx => by have := (hol x.block (by rw [hx]; rfl)).1; omega)
        have q := kk.at
        unfold frBox at q
        simp at q
        refine bodyPost_ret (v := .agg #[.int .i64 (⟨3, R, s, ⟨1, 0⟩, TS⟩ : Fr).K, .int .i64 (⟨3, R, s, ⟨1, 0⟩, TS⟩ : Fr).R, .int .i64 (⟨3, R, s, ⟨1, 0⟩, TS⟩ : Fr).S, .int .i64 (⟨3, R, s, ⟨1, 0⟩, TS⟩ : Fr).P.K, .int .i64 (⟨3, R, s, ⟨1, 0⟩, TS⟩ : Fr).P.V, .slice av (⟨3, R, s, ⟨1, 0⟩, TS⟩ : Fr).E.length cv]) (by simp [results, Try.results54, go_sem, q]) rfl ?_
        rw [HF.out]
        exact ⟨av, cv, rfl, hr2, fun x hx => by have := (hol x.block (by rw [hx]; rfl)).1; omega, hb2⟩
  · have d1 : decide (s < c.N) = false := by simpa using hs
    rw [if_neg hs] at HF
    go_wp2
    obtain ⟨kk, hb2, hr2⟩ := fr_end ⟨3, R, s, ⟨1, 0⟩, []⟩ w w2 (w.heap.size + 1) none 0 hB (by omega) hZ (RowT.empty _ _) (.inl rfl)
    have q := kk.at
    unfold frBox at q
    simp at q
    refine bodyPost_ret (v := .agg #[.int .i64 (⟨3, R, s, ⟨1, 0⟩, []⟩ : Fr).K, .int .i64 (⟨3, R, s, ⟨1, 0⟩, []⟩ : Fr).R, .int .i64 (⟨3, R, s, ⟨1, 0⟩, []⟩ : Fr).S, .int .i64 (⟨3, R, s, ⟨1, 0⟩, []⟩ : Fr).P.K, .int .i64 (⟨3, R, s, ⟨1, 0⟩, []⟩ : Fr).P.V, .slice none (⟨3, R, s, ⟨1, 0⟩, []⟩ : Fr).E.length 0]) (by simp [results, Try.results54, go_sem, q]) rfl ?_
    rw [HF.out]
    refine ⟨none, 0, rfl, hr2, ?_, hb2⟩
    intro y hy
    cases hy

end Go.Proofs.Ytbghpkdkfbpmeaa
