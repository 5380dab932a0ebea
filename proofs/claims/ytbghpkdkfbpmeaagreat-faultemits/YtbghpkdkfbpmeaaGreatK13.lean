/-
  Contracts of package fault, fourth part: the frames that a locus makes.
-/
import Derived.Test.YtbghpkdkfbpmeaaGreatK12
namespace Go.Proofs.YtbghpkdkfbpmeaaGreat
open Go.RowKit Plait
set_option maxRecDepth 100000
set_option linter.unusedVariables false
set_option linter.unusedSimpArgs false

/-- A frame laid into a result's place. -/
theorem fr_end (f : Fr) (w wr : World) (rb : Nat) (av : Option Addr) (cv : Nat) (hB : Below w.heap.size w wr) (hrb : w.heap.size ≤ rb) (k2 : Blk wr rb 32 zeroBox) (hr : RowT wr av f.E) (hne : f.E = [] ∨ ∀ x, av = some x → x.block ≠ rb) :
    Blk ((((((wr.setCell ⟨rb, 0, none⟩ (.int .i64 f.K)).setCell ⟨rb, 1, none⟩ (.int .i64 f.R)).setCell ⟨rb, 2, none⟩ (.int .i64 f.S)).setCell ⟨rb, 3, none⟩ (.int .i64 f.P.K)).setCell ⟨rb, 4, none⟩ (.int .i64 f.P.V)).setCell ⟨rb, 5, none⟩ (.slice av f.E.length cv)) rb 32 (frBox f av cv) ∧
    Below w.heap.size w ((((((wr.setCell ⟨rb, 0, none⟩ (.int .i64 f.K)).setCell ⟨rb, 1, none⟩ (.int .i64 f.R)).setCell ⟨rb, 2, none⟩ (.int .i64 f.S)).setCell ⟨rb, 3, none⟩ (.int .i64 f.P.K)).setCell ⟨rb, 4, none⟩ (.int .i64 f.P.V)).setCell ⟨rb, 5, none⟩ (.slice av f.E.length cv)) ∧
    RowT ((((((wr.setCell ⟨rb, 0, none⟩ (.int .i64 f.K)).setCell ⟨rb, 1, none⟩ (.int .i64 f.R)).setCell ⟨rb, 2, none⟩ (.int .i64 f.S)).setCell ⟨rb, 3, none⟩ (.int .i64 f.P.K)).setCell ⟨rb, 4, none⟩ (.int .i64 f.P.V)).setCell ⟨rb, 5, none⟩ (.slice av f.E.length cv)) av f.E := by
  unfold zeroBox at k2
  refine ⟨((((((k2.set 0 (.int .i64 f.K)).set 1 (.int .i64 f.R)).set 2 (.int .i64 f.S)).set 3 (.int .i64 f.P.K)).set 4 (.int .i64 f.P.V)).set 5 (.slice av f.E.length cv)), ?_, ?_⟩
  · exact (((((hB.setCell (p := ⟨rb, 0, none⟩) hrb (.int .i64 f.K)).setCell (p := ⟨rb, 1, none⟩) hrb (.int .i64 f.R)).setCell (p := ⟨rb, 2, none⟩) hrb (.int .i64 f.S)).setCell
      (p := ⟨rb, 3, none⟩) hrb (.int .i64 f.P.K)).setCell (p := ⟨rb, 4, none⟩) hrb (.int .i64 f.P.V)).setCell (p := ⟨rb, 5, none⟩) hrb (.slice av f.E.length cv)
  · exact (((((hr.far2 rb 0 _ hne).far2 rb 1 _ hne).far2 rb 2 _ hne).far2 rb 3 _ hne).far2 rb 4 _ hne).far2 rb 5 _ hne

/-- What holds in fresh's loop. -/
structure FreshAt (w : World) (R s : Int) (n g base k : Nat) (v : Value) (W : World) : Prop where
  kn : k ≤ n
  bel : Below w.heap.size w W
  zero : Blk W (w.heap.size + 1) 32 zeroBox
  item : Blk W (w.heap.size + 2) 29 #[.int .i64 1, .int .i64 0]
  box : Blk W g 32 (MakeV 3 R s 1 0 v)
  own : OwnT base W v (List.replicate k ⟨1, 0⟩)
  big : base ≤ W.heap.size

set_option maxHeartbeats 1600000 in
theorem lfresh_any (c : Cf) (ca : Option Addr) (cc : Nat) (r s : Int) (w : World) (hc : c.Ok) (r0 : 0 ≤ r) (r1 : r ≤ 1099511627776) :
    Calls Tryz.prog 69 #[.agg #[.int .i64 c.N, .int .i64 c.Pi, .int .i64 c.E, .int .i64 c.G, .int .i64 c.F, .slice ca c.P.length cc], .int .i64 r, .int .i64 s] w (FrRet (freshF c r s) w) := by
  have hB0 : Below w.heap.size w ((w.alloc (.cells #[.int .i64 c.N, .int .i64 c.Pi, .int .i64 c.E, .int .i64 c.G, .int .i64 c.F, .slice ca c.P.length cc] 24)).alloc (.cells zeroBox 32)) := (alloc_below w _).alloc (by simp) _
  have hC0 : Blk ((w.alloc (.cells #[.int .i64 c.N, .int .i64 c.Pi, .int .i64 c.E, .int .i64 c.G, .int .i64 c.F, .slice ca c.P.length cc] 24)).alloc (.cells zeroBox 32)) w.heap.size 24 (confBox c ca cc) := (Blk.new w _ _).alloc _
  have hZ0 : Blk ((w.alloc (.cells #[.int .i64 c.N, .int .i64 c.Pi, .int .i64 c.E, .int .i64 c.G, .int .i64 c.F, .slice ca c.P.length cc] 24)).alloc (.cells zeroBox 32)) (w.heap.size + 1) 32 zeroBox := Blk.newAt _ _ (by simp)
  have HW := Lib.hid (fun W => cwire_any c ca cc r W hc r0 r1)
  have HS := Lib.hid (fun W => cslots_any c ca cc W hc)
  have h6 := hc.n6
  have h12 := hc.n12
  have hsl : 6 ≤ slotsI c ∧ slotsI c ≤ 15 := by have := hc.len; unfold slotsI; omega
  have HF := Lib.hid (show freshF c r s = ⟨3, wireI c r, s, ⟨1, 0⟩, if s < c.N then List.replicate (slotsI c).toNat ⟨1, 0⟩ else []⟩ from rfl)
  generalize wireI c r = R at *
  obtain ⟨hs6, hs15⟩ := hsl
  go_enter Tryz.func69, Tryz.ntmps69
  go_upto_region 2 with fail
  have kB : Below w.heap.size w (((w.alloc (.cells #[.int .i64 c.N, .int .i64 c.Pi, .int .i64 c.E, .int .i64 c.G, .int .i64 c.F, .slice ca c.P.length cc] 24)).alloc (.cells zeroBox 32)).alloc (.cells #[.int .i64 1, .int .i64 0] 29)) := hB0.alloc hB0.size _
  have kC := hC0.alloc (.cells #[.int .i64 1, .int .i64 0] 29)
  have kZ := hZ0.alloc (.cells #[.int .i64 1, .int .i64 0] 29)
  have kI : Blk (((w.alloc (.cells #[.int .i64 c.N, .int .i64 c.Pi, .int .i64 c.E, .int .i64 c.G, .int .i64 c.F, .slice ca c.P.length cc] 24)).alloc (.cells zeroBox 32)).alloc (.cells #[.int .i64 1, .int .i64 0] 29)) (w.heap.size + 2) 29 #[.int .i64 1, .int .i64 0] := Blk.newAt _ _ (by simp)
  clear hB0 hC0 hZ0
  unfold zeroBox at kB kC kI
  conv at kZ => arg 1; unfold zeroBox
  have hsz2 : w.heap.size + 1 + 1 = w.heap.size + 2 := rfl
  rw [hsz2]
  generalize (((w.alloc (.cells #[.int .i64 c.N, .int .i64 c.Pi, .int .i64 c.E, .int .i64 c.G, .int .i64 c.F, .slice ca c.P.length cc] 24)).alloc (.cells #[.int .i64 0, .int .i64 0, .int .i64 0, .int .i64 0, .int .i64 0, .slice none 0 0] 32)).alloc (.cells #[.int .i64 1, .int .i64 0] 29)) = w1 at *
  refine region_slots [some 10, some 11, some 12, some 13, some 14, some 15, some 8, none] [none, none, none, none, none, none, none, some 6] 37 8 rfl (by kernel_rfl) (by kernel_rfl) rfl rfl ?_
  apply step_fix
  · intro a W Zs hS hFm hz hd
    have h3 := hFm.old 3 rfl
    conv at h3 => rhs; whnf
    replace h3 := ev_get hFm.size h3
    have hq := (kC.drew1.later hS).at
    unfold confBox at hq
    refine .inl ⟨wanted_none rfl _, fun K hK => ?_⟩
    have HK := Lib.hid hK
    clear hd hFm hK
    go_simp
    exact HK.out _ _ rfl (Below.refl _ _)
  simp only [List.nil_append, List.cons_append]
  apply step_fix
  · intro a W Zs hS hFm hz hd
    have h1 := hFm.old 1 rfl
    conv at h1 => rhs; whnf
    replace h1 := ev_get hFm.size h1
    refine .inl ⟨wanted_none rfl _, fun K hK => ?_⟩
    have HK := Lib.hid hK
    clear hd hFm hK
    go_simp
    exact HK.out _ _ rfl (Below.refl _ _)
  simp only [List.nil_append, List.cons_append]
  apply step_fix
  · intro a W Zs hS hFm hz hd
    have h10 := ev_get hFm.size (hd 0 10 rfl rfl)
    have h11 := ev_get hFm.size (hd 1 11 rfl rfl)
    refine .inl ⟨wanted_none rfl _, fun K hK => ?_⟩
    have HK := Lib.hid hK
    clear hd hFm hK
    go_simp
    refine (HW.out _).mono ?_
    rintro e W' ⟨rfl, hb⟩
    exact HK.out _ _ rfl hb
  simp only [List.nil_append, List.cons_append]
  apply step_fix
  · intro a W Zs hS hFm hz hd
    have h2 := hFm.old 2 rfl
    conv at h2 => rhs; whnf
    replace h2 := ev_get hFm.size h2
    refine .inl ⟨wanted_none rfl _, fun K hK => ?_⟩
    have HK := Lib.hid hK
    clear hd hFm hK
    go_simp
    exact HK.out _ _ rfl (Below.refl _ _)
  simp only [List.nil_append, List.cons_append]
  apply step_fix
  · intro a W Zs hS hFm hz hd
    have h7 := hFm.old 7 rfl
    conv at h7 => rhs; whnf
    replace h7 := ev_get hFm.size h7
    have hq := (kI.drew1.later hS).at
    refine .inl ⟨wanted_none rfl _, fun K hK => ?_⟩
    have HK := Lib.hid hK
    clear hd hFm hK
    go_simp
    exact HK.out _ _ rfl (Below.refl _ _)
  simp only [List.nil_append, List.cons_append]
  apply step_fix
  · intro a W Zs hS hFm hz hd
    have h12 := ev_get hFm.size (hd 2 12 rfl rfl)
    have h13 := ev_get hFm.size (hd 3 13 rfl rfl)
    have h14 := ev_get hFm.size (hd 4 14 rfl rfl)
    refine .inl ⟨wanted_none rfl _, fun K hK => ?_⟩
    have HK := Lib.hid hK
    clear hd hFm hK
    go_simp
    exact HK.out _ _ rfl (Below.refl _ _)
  simp only [List.nil_append, List.cons_append]
  refine step_of (boxF _ 32 6) (boxF_good _ _ _) ?_ ?_
  · intro a W Zs hS hFm hz hd
    refine .inl ⟨wanted_none rfl _, fun K hK => ?_⟩
    have HK := Lib.hid hK
    clear hd hFm hK
    go_simp
    exact HK.out _ _ ⟨_, _, rfl, rfl, Blk.new _ _ _, .inl ⟨Nat.le_refl _, by simp⟩⟩ (alloc_below _ _)
  simp only [List.nil_append, List.cons_append]
  apply step_lit
  · intro a W Zs hS hFm hz hd hap
    obtain ⟨b8, cs8, e8, n8, q8, z8⟩ := hd 6 8 rfl rfl
    have h8 := ev_get hFm.size e8
    have h15 := ev_get hFm.size (hd 5 15 rfl rfl)
    have hB0 := (hz 6 _ rfl z8).1
    obtain ⟨u0, u1, u2, u3, u4, u5, rfl⟩ := arr6 n8
    have hq := q8.at
    have hfz := q8.frozen
    refine ⟨wanted_none rfl _, b8, z8, fun K hK => ?_⟩
    have HK := Lib.hid hK
    clear hd hFm hK
    go_simp
    exact HK.out undef _ (Only.fill6 _ _ _ _ _ _ _ _) (fun d hd' => by injection hd' with hd'; subst hd'; exact ⟨⟨b8, e8, q8.fill6 _ _ _ _ _ _, .inr (.inl rfl)⟩, ⟨b8, _, e8, rfl, q8.fill6 _ _ _ _ _ _, z8⟩⟩)
  simp only [List.nil_append, List.cons_append]
  intro a w2 Zs hS hFm hz hd
  obtain ⟨b8, e8, q8, f8⟩ := hd 7 8 (by decide) rfl
  obtain ⟨bz, csz, ez, nz, qz, zz⟩ := hd 6 8 (by decide) rfl
  have nb8 := ptr_new ez e8 (hz 6 (by decide) bz zz)
  clear zz qz nz ez
  clear csz bz
  have e0 := hFm.old 0 rfl
  conv at e0 => rhs; whnf
  have e1 := hFm.old 1 rfl
  conv at e1 => rhs; whnf
  have e2 := hFm.old 2 rfl
  conv at e2 => rhs; whnf
  have e3 := hFm.old 3 rfl
  conv at e3 => rhs; whnf
  have e4 := hFm.old 4 rfl
  conv at e4 => rhs; whnf
  have e5 := hFm.old 5 rfl
  conv at e5 => rhs; whnf
  have e6 := hFm.old 6 rfl
  conv at e6 => rhs; whnf
  have e7 := hFm.old 7 rfl
  conv at e7 => rhs; whnf
  have e9 := hFm.old 9 rfl
  conv at e9 => rhs; whnf
  have e16 := hFm.old 16 rfl
  conv at e16 => rhs; whnf
  have e17 := hFm.old 17 rfl
  conv at e17 => rhs; whnf
  have e18 := hFm.old 18 rfl
  conv at e18 => rhs; whnf
  have e19 := hFm.old 19 rfl
  conv at e19 => rhs; whnf
  have e20 := hFm.old 20 rfl
  conv at e20 => rhs; whnf
  have e21 := hFm.old 21 rfl
  conv at e21 => rhs; whnf
  have e22 := hFm.old 22 rfl
  conv at e22 => rhs; whnf
  have e23 := hFm.old 23 rfl
  conv at e23 => rhs; whnf
  have e24 := hFm.old 24 rfl
  conv at e24 => rhs; whnf
  have e25 := hFm.old 25 rfl
  conv at e25 => rhs; whnf
  have e26 := hFm.old 26 rfl
  conv at e26 => rhs; whnf
  have e27 := hFm.old 27 rfl
  conv at e27 => rhs; whnf
  have e28 := hFm.old 28 rfl
  conv at e28 => rhs; whnf
  have e29 := hFm.old 29 rfl
  conv at e29 => rhs; whnf
  have e30 := hFm.old 30 rfl
  conv at e30 => rhs; whnf
  have e31 := hFm.old 31 rfl
  conv at e31 => rhs; whnf
  have e32 := hFm.old 32 rfl
  conv at e32 => rhs; whnf
  have e33 := hFm.old 33 rfl
  conv at e33 => rhs; whnf
  have e34 := hFm.old 34 rfl
  conv at e34 => rhs; whnf
  have e35 := hFm.old 35 rfl
  conv at e35 => rhs; whnf
  have e36 := hFm.old 36 rfl
  conv at e36 => rhs; whnf
  have hsz := hFm.size
  have hdf := hFm.defers
  clear hd hFm
  obtain ⟨t, df⟩ := a
  simp only at hsz hdf
  subst hdf
  obtain ⟨x, hx⟩ : ∃ x : Nat → Value, ∀ i, t.getD i undef = x i := ⟨fun i => t.getD i undef, fun _ => rfl⟩
  have h8 := (hx 8).symm.trans e8
  have h0 := (hx 0).symm.trans e0
  have h1 := (hx 1).symm.trans e1
  have h2 := (hx 2).symm.trans e2
  have h3 := (hx 3).symm.trans e3
  have h4 := (hx 4).symm.trans e4
  have h5 := (hx 5).symm.trans e5
  have h6 := (hx 6).symm.trans e6
  have h7 := (hx 7).symm.trans e7
  have h9 := (hx 9).symm.trans e9
  have h16 := (hx 16).symm.trans e16
  have h17 := (hx 17).symm.trans e17
  have h18 := (hx 18).symm.trans e18
  have h19 := (hx 19).symm.trans e19
  have h20 := (hx 20).symm.trans e20
  have h21 := (hx 21).symm.trans e21
  have h22 := (hx 22).symm.trans e22
  have h23 := (hx 23).symm.trans e23
  have h24 := (hx 24).symm.trans e24
  have h25 := (hx 25).symm.trans e25
  have h26 := (hx 26).symm.trans e26
  have h27 := (hx 27).symm.trans e27
  have h28 := (hx 28).symm.trans e28
  have h29 := (hx 29).symm.trans e29
  have h30 := (hx 30).symm.trans e30
  have h31 := (hx 31).symm.trans e31
  have h32 := (hx 32).symm.trans e32
  have h33 := (hx 33).symm.trans e33
  have h34 := (hx 34).symm.trans e34
  have h35 := (hx 35).symm.trans e35
  have h36 := (hx 36).symm.trans e36
  have ht' : t = #[x 0, x 1, x 2, x 3, x 4, x 5, x 6, x 7, x 8, x 9, x 10, x 11, x 12, x 13, x 14, x 15, x 16, x 17, x 18, x 19, x 20, x 21, x 22, x 23, x 24, x 25, x 26, x 27, x 28, x 29, x 30, x 31, x 32, x 33, x 34, x 35, x 36] := frame_lit t 37 hsz x hx
  clear hx hsz hz e8 e0 e1 e2 e3 e4 e5 e6 e7 e9 e16 e17 e18 e19 e20 e21 e22 e23 e24 e25 e26 e27 e28 e29 e30 e31 e32 e33 e34 e35 e36
  subst ht'
  dsimp only
  rw [h8, h0, h1, h2, h3, h4, h5, h6, h7, h9, h16, h17, h18, h19, h20, h21, h22, h23, h24, h25, h26, h27, h28, h29, h30, h31, h32, h33, h34, h35, h36]
  clear h8 h0 h1 h2 h3 h4 h5 h6 h7 h9 h16 h17 h18 h19 h20 h21 h22 h23 h24 h25 h26 h27 h28 h29 h30 h31 h32 h33 h34 h35 h36
  have hb2 := from_drew hS
  have hB := kB.trans (hb2.mono kB.size)
  have hC := kC.later hb2
  have hZ := kZ.later hb2
  have hI := kI.later hb2
  have hg1 : w1.heap.size ≤ b8 := nb8.1
  have hI1 := kI.lt
  clear hS hb2 kB kC kZ kI f8 nb8 HW
  have hQc := hC.at
  unfold confBox at hQc
  have hQg := q8.at
  have hQz := hZ.at
  unfold zeroBox at hQz
  have hFz := hZ.frozen
  by_cases hs : s < c.N
  · have d1 : decide (s < c.N) = true := by simpa using hs
    rw [if_pos hs] at HF
    go_wp2_with fail
    refine (HS.out _).mono ?_
    rintro e w3 ⟨rfl, hb⟩
    have hB3 := hB.trans (hb.mono hB.size)
    have hg3 : Blk w3 b8 32 (MakeV 3 R s 1 0 (.slice none 0 0)) := q8.later hb
    have hZ3 := hZ.later hb
    have hI3 := hI.later hb
    have hglt := hg3.lt
    clear hb hQc hQg hQz hFz q8 hZ hI hC hB
    go_wp2
    go_loopw [27] (fun i w' => ∃ (k : Nat) (v : Value), i = .int .i64 k ∧ FreshAt w R s (slotsI c).toNat b8 w3.heap.size k v w') (fun i _ => 15 - (intOf i).toNat)
    case atStart => exact ⟨0, _, rfl, ⟨Nat.zero_le _, hB3, hZ3, hI3, hg3, OwnT.nil _ _, Nat.le_refl _⟩⟩
    case round =>
      clear hg3 hZ3 hI3 hB3
      obtain ⟨k, v, rfl, hk, hB, hZ, hI, hg, hown, hbig⟩ := hrel
      have hll : (List.replicate k (⟨1, 0⟩ : It)).length ≤ 15 := by simp; omega
      have hin : ∀ t ∈ List.replicate k (⟨1, 0⟩ : It), inI t.K ∧ inI t.V := fun t ht => by rw [List.eq_of_mem_replicate ht]; exact ⟨⟨by show (-9223372036854775808 : Int) ≤ 1; omega, by show (1 : Int) ≤ 9223372036854775807; omega⟩, ⟨by show (-9223372036854775808 : Int) ≤ 0; omega, by show (0 : Int) ≤ 9223372036854775807; omega⟩⟩
      have HR := Lib.hid (show List.replicate (k + 1) (⟨1, 0⟩ : It) = List.replicate k ⟨1, 0⟩ ++ [⟨1, 0⟩] from List.replicate_succ')
      have hol := hown.lt
      have g0 := hg.at
      unfold MakeV at g0
      have gf := hg.frozen
      have i0 := hI.at
      by_cases hlt : (k : Int) < slotsI c
      · have d2 : decide ((k : Int) < slotsI c) = true := by simpa using hlt
        generalize List.replicate k (⟨1, 0⟩ : It) = TS at *
        obtain ⟨av, cv, rfl⟩ := hown.form
        go_wp2_with (first
          | (at_builtin; have hx1 := hown; refine wpList_appT _ rfl _ _ rfl w3.heap.size (.slice av TS.length cv) TS rfl (hown.later (alloc_below _ _)) wr.heap.size 1 ⟨1, 0⟩ rfl (heap_alloc_new _ _) (by omega) (by simp; omega) ?_; intro g5 cap5 w5 ho2 hg2 h3 h4; replace hZ := (hZ.alloc _).grown hg2 (fun e => by have := (hol _ e.symm).1; omega); replace hI := (hI.alloc _).grown hg2 (fun e => by have := (hol _ e.symm).1; omega); replace hg := (hg.alloc _).grown hg2 (fun e => by have := (hol _ e.symm).1; omega); replace hB := below_grown (hB.alloc hB.size _) (hB.alloc hB.size _).size hg2 (fun x hx => by have := (hol _ hx).1; omega); clear hx1 g0 gf i0; have g0 := hg.at; unfold MakeV at g0; have gf := hg.frozen; have hs5 := hg2.size; clear hown))
        go_roundw
        case rel =>
          refine ⟨k + 1, _, by go_num, ⟨by omega, hB.setCell (p := ⟨b8, 5, none⟩) (by show w.heap.size ≤ b8; omega) _, hZ.far (p := ⟨b8, 5, none⟩) (by show w.heap.size + 1 ≠ b8; omega) _, hI.far (p := ⟨b8, 5, none⟩) (by show w.heap.size + 2 ≠ b8; omega) _, hg.set 5 _, ?_, by simp [World.setCell] at hs5 ⊢; omega⟩⟩
          rw [HR.out]
          exact ho2.far ⟨b8, 5, none⟩ _ hglt
        case measure => simp [intOf]; omega
      · have d2 : decide ((k : Int) < slotsI c) = false := by simpa using hlt
        have hkk : (slotsI c).toNat = k := by omega
        rw [hkk] at HF
        clear hkk HR
        generalize List.replicate k (⟨1, 0⟩ : It) = TS at *
        obtain ⟨av, cv, rfl⟩ := hown.form
        have z0 := hZ.at
        unfold zeroBox at z0
        have zf := hZ.frozen
        go_wp2
        obtain ⟨kk, hb2, hr2⟩ := fr_end ⟨3, R, s, ⟨1, 0⟩, TS⟩ w wr (w.heap.size + 1) av cv hB (by omega) hZ (hown.row (by show TS.length ≤ _; omega) hin) (.inr fun x hx => by have := (hol x.block (by rw [hx]; rfl)).1; omega)
        have q := kk.at
        unfold frBox at q
        simp at q
        refine bodyPost_ret (v := .agg #[.int .i64 (⟨3, R, s, ⟨1, 0⟩, TS⟩ : Fr).K, .int .i64 (⟨3, R, s, ⟨1, 0⟩, TS⟩ : Fr).R, .int .i64 (⟨3, R, s, ⟨1, 0⟩, TS⟩ : Fr).S, .int .i64 (⟨3, R, s, ⟨1, 0⟩, TS⟩ : Fr).P.K, .int .i64 (⟨3, R, s, ⟨1, 0⟩, TS⟩ : Fr).P.V, .slice av (⟨3, R, s, ⟨1, 0⟩, TS⟩ : Fr).E.length cv]) (by simp [results, Tryz.results69, go_sem, q]) rfl ?_
        rw [HF.out]
        exact ⟨av, cv, rfl, hr2, fun x hx => by have := (hol x.block (by rw [hx]; rfl)).1; omega, hb2⟩
  · have d1 : decide (s < c.N) = false := by simpa using hs
    rw [if_neg hs] at HF
    go_wp2
    obtain ⟨kk, hb2, hr2⟩ := fr_end ⟨3, R, s, ⟨1, 0⟩, []⟩ w w2 (w.heap.size + 1) none 0 hB (by omega) hZ (RowT.empty _ _) (.inl rfl)
    have q := kk.at
    unfold frBox at q
    simp at q
    refine bodyPost_ret (v := .agg #[.int .i64 (⟨3, R, s, ⟨1, 0⟩, []⟩ : Fr).K, .int .i64 (⟨3, R, s, ⟨1, 0⟩, []⟩ : Fr).R, .int .i64 (⟨3, R, s, ⟨1, 0⟩, []⟩ : Fr).S, .int .i64 (⟨3, R, s, ⟨1, 0⟩, []⟩ : Fr).P.K, .int .i64 (⟨3, R, s, ⟨1, 0⟩, []⟩ : Fr).P.V, .slice none (⟨3, R, s, ⟨1, 0⟩, []⟩ : Fr).E.length 0]) (by simp [results, Tryz.results69, go_sem, q]) rfl ?_
    rw [HF.out]
    refine ⟨none, 0, rfl, hr2, ?_, hb2⟩
    intro y hy
    cases hy

end Go.Proofs.YtbghpkdkfbpmeaaGreat
/-
  Contracts of package fault, fifth part: what a locus emits.
-/
namespace Go.Proofs.YtbghpkdkfbpmeaaGreat
open Go.RowKit Plait
set_option maxRecDepth 100000
set_option linter.unusedVariables false
set_option linter.unusedSimpArgs false

set_option maxHeartbeats 1600000 in
theorem ldataOf_any (c : Cf) (ca : Option Addr) (cc : Nat) (r s : Int) (b : List UInt8) (w : World) (hc : c.Ok) (r0 : 0 ≤ r) (r1 : r ≤ 1099511627776) (hb : b.length ≤ 1048576) :
    Calls Tryz.prog 58 #[.agg #[.int .i64 c.N, .int .i64 c.Pi, .int .i64 c.E, .int .i64 c.G, .int .i64 c.F, .slice ca c.P.length cc], .int .i64 r, .int .i64 s, .string ⟨b.toArray⟩] w (FrRet (dataF c r s b) w) := by
  have hB0 : Below w.heap.size w ((w.alloc (.cells #[.int .i64 c.N, .int .i64 c.Pi, .int .i64 c.E, .int .i64 c.G, .int .i64 c.F, .slice ca c.P.length cc] 24)).alloc (.cells zeroBox 32)) := (alloc_below w _).alloc (by simp) _
  have hC0 : Blk ((w.alloc (.cells #[.int .i64 c.N, .int .i64 c.Pi, .int .i64 c.E, .int .i64 c.G, .int .i64 c.F, .slice ca c.P.length cc] 24)).alloc (.cells zeroBox 32)) w.heap.size 24 (confBox c ca cc) := (Blk.new w _ _).alloc _
  have hZ0 : Blk ((w.alloc (.cells #[.int .i64 c.N, .int .i64 c.Pi, .int .i64 c.E, .int .i64 c.G, .int .i64 c.F, .slice ca c.P.length cc] 24)).alloc (.cells zeroBox 32)) (w.heap.size + 1) 32 zeroBox := Blk.newAt _ _ (by simp)
  have hs0 : ((w.alloc (.cells #[.int .i64 c.N, .int .i64 c.Pi, .int .i64 c.E, .int .i64 c.G, .int .i64 c.F, .slice ca c.P.length cc] 24)).alloc (.cells zeroBox 32)).heap.size = w.heap.size + 2 := by simp
  obtain ⟨f, e, hfe⟩ : ∃ f e, readF c b = (f, e) := ⟨_, _, rfl⟩
  have HR := Lib.hid (fun W => fRead_at c ca cc b W hc hb f e hfe)
  have HW := Lib.hid (fun W => lfresh_any c ca cc r s W hc r0 r1)
  have HD : dataF c r s b = if e = 0 ∧ f.K = 3 then f else freshF c r s := by unfold dataF; rw [hfe]
  have HD2 := Lib.hid HD
  clear HD hfe
  unfold zeroBox at hB0 hC0 hs0
  conv at hZ0 => arg 1; unfold zeroBox
  go_enter Tryz.func58, Tryz.ntmps58
  go_wp2_with fail
  refine (HR.out _).mono ?_
  rintro en wm ⟨fa, fc, rfl, hrf, hff, hb1⟩
  have hB := hB0.trans (hb1.mono hB0.size)
  have hC := hC0.later hb1
  have hZ := hZ0.later hb1
  have hff2 : ∀ x, fa = some x → w.heap.size + 2 ≤ x.block := fun x hx => by have := hff x hx; omega
  clear hb1 hff hB0 hC0 hZ0 hs0
  replace hC := hC.alloc (.cells #[.int .i64 f.K, .int .i64 f.R, .int .i64 f.S, .int .i64 f.P.K, .int .i64 f.P.V, .slice fa f.E.length fc] 32)
  replace hZ := hZ.alloc (.cells #[.int .i64 f.K, .int .i64 f.R, .int .i64 f.S, .int .i64 f.P.K, .int .i64 f.P.V, .slice fa f.E.length fc] 32)
  replace hrf := hrf.alloc (.cells #[.int .i64 f.K, .int .i64 f.R, .int .i64 f.S, .int .i64 f.P.K, .int .i64 f.P.V, .slice fa f.E.length fc] 32)
  have hG : Blk (wm.alloc (.cells #[.int .i64 f.K, .int .i64 f.R, .int .i64 f.S, .int .i64 f.P.K, .int .i64 f.P.V, .slice fa f.E.length fc] 32)) wm.heap.size 32 (frBox f fa fc) := Blk.new wm _ _
  replace hB := hB.alloc hB.size (.cells #[.int .i64 f.K, .int .i64 f.R, .int .i64 f.S, .int .i64 f.P.K, .int .i64 f.P.V, .slice fa f.E.length fc] 32)
  go_upto_region 2 with fail
  have hQg := hG.at
  unfold frBox at hQg
  have hQc := hC.at
  unfold confBox at hQc
  have hQz := hZ.at
  unfold zeroBox at hQz
  have hFz := hZ.frozen
  by_cases he : e = 0
  · have d1 : (e == 0) = true := by simpa using he
    by_cases hK : f.K = 3
    · have d2 : (f.K == 3) = true := by simpa using hK
      have HE := Lib.hid (show dataF c r s b = f by rw [HD2.out, if_pos ⟨he, hK⟩])
      clear he hK HD2 HR HW
      go_wp2
      obtain ⟨kk, hb2, hr2⟩ := fr_end f w (wm.alloc (.cells #[.int .i64 f.K, .int .i64 f.R, .int .i64 f.S, .int .i64 f.P.K, .int .i64 f.P.V, .slice fa f.E.length fc] 32)) (w.heap.size + 1) fa fc hB (by omega) hZ hrf (.inr fun x hx => by have := hff2 x hx; omega)
      have q := kk.at
      unfold frBox at q
      simp at q
      refine bodyPost_ret (v := .agg #[.int .i64 f.K, .int .i64 f.R, .int .i64 f.S, .int .i64 f.P.K, .int .i64 f.P.V, .slice fa f.E.length fc]) (by simp [results, Tryz.results58, go_sem, q]) rfl ?_
      rw [HE.out]
      exact ⟨fa, fc, rfl, hr2, fun x hx => by have := hff2 x hx; omega, hb2⟩
    · have d2 : (f.K == 3) = false := by simpa using hK
      have HE := Lib.hid (show dataF c r s b = freshF c r s by rw [HD2.out, if_neg (by simp [hK])])
      clear he hK HD2 HR
      generalize freshF c r s = g at *
      generalize wm.alloc (.cells #[.int .i64 f.K, .int .i64 f.R, .int .i64 f.S, .int .i64 f.P.K, .int .i64 f.P.V, .slice fa f.E.length fc] 32) = wl at *
      go_wp2_with fail
      refine (HW.out _).mono ?_
      rintro en wk ⟨ga, gc, rfl, hrg, hfg, hb1⟩
      clear hQz hFz hQc hQg
      have hlt := hZ.lt
      replace hB := hB.trans (hb1.mono hB.size)
      replace hZ := hZ.later hb1
      have hQz := hZ.at
      unfold zeroBox at hQz
      have hFz := hZ.frozen
      go_wp2
      obtain ⟨kk, hb2, hr2⟩ := fr_end g w wk (w.heap.size + 1) ga gc hB (by omega) hZ hrg (.inr fun x hx => by have := hfg x hx; omega)
      have q := kk.at
      unfold frBox at q
      simp at q
      refine bodyPost_ret (v := .agg #[.int .i64 g.K, .int .i64 g.R, .int .i64 g.S, .int .i64 g.P.K, .int .i64 g.P.V, .slice ga g.E.length gc]) (by simp [results, Tryz.results58, go_sem, q]) rfl ?_
      rw [HE.out]
      exact ⟨ga, gc, rfl, hr2, fun x hx => by have := hfg x hx; omega, hb2⟩
  · have d1 : (e == 0) = false := by simpa using he
    have HE := Lib.hid (show dataF c r s b = freshF c r s by rw [HD2.out, if_neg (by simp [he])])
    clear he HD2 HR
    generalize freshF c r s = g at *
    generalize wm.alloc (.cells #[.int .i64 f.K, .int .i64 f.R, .int .i64 f.S, .int .i64 f.P.K, .int .i64 f.P.V, .slice fa f.E.length fc] 32) = wl at *
    go_wp2_with fail
    refine (HW.out _).mono ?_
    rintro en wk ⟨ga, gc, rfl, hrg, hfg, hb1⟩
    clear hQz hFz hQc hQg
    have hlt := hZ.lt
    replace hB := hB.trans (hb1.mono hB.size)
    replace hZ := hZ.later hb1
    have hQz := hZ.at
    unfold zeroBox at hQz
    have hFz := hZ.frozen
    go_wp2
    obtain ⟨kk, hb2, hr2⟩ := fr_end g w wk (w.heap.size + 1) ga gc hB (by omega) hZ hrg (.inr fun x hx => by have := hfg x hx; omega)
    have q := kk.at
    unfold frBox at q
    simp at q
    refine bodyPost_ret (v := .agg #[.int .i64 g.K, .int .i64 g.R, .int .i64 g.S, .int .i64 g.P.K, .int .i64 g.P.V, .slice ga g.E.length gc]) (by simp [results, Tryz.results58, go_sem, q]) rfl ?_
    rw [HE.out]
    exact ⟨ga, gc, rfl, hr2, fun x hx => by have := hfg x hx; omega, hb2⟩

theorem clean_len (l : List UInt8) : (clean l).length ≤ l.length := by unfold clean; simp; omega

theorem lturned_any (b : List UInt8) (n : Int) (w : World) (hb : b.length ≤ 1048576) :
    Calls Tryz.prog 57 #[.string ⟨b.toArray⟩, .int .i64 n] w fun e w' => e = .returned (.string ⟨(turnedL b n).toArray⟩) ∧ Below w.heap.size w w' := by
  by_cases h0 : b = []
  · subst h0
    have HF := Lib.hid (show turnedL [] n = [] from rfl)
    have d1 : (([] : List UInt8) == []) = true := rfl
    go_enter Tryz.func57, Tryz.ntmps57
    go_wp2
    go_ret
    exact ⟨ret_str HF.out.symm, Below.refl _ _⟩
  · have HF := Lib.hid (show turnedL b n = clean (turn b (n % (b.length : Int))) by unfold turnedL; rw [if_neg h0])
    have d1 : (b == []) = false := by simpa using h0
    have hpos : 0 < b.length := List.length_pos_iff.2 h0
    have HR := Lib.hid (fun W => lrem_any n b.length W (by omega) (by omega))
    have hlt := turn_length b (n % (b.length : Int))
    have HT := Lib.hid (fun W => turn_any b (n % (b.length : Int)) W (by omega))
    have HC := Lib.hid (fun W => clean_any (turn b (n % (b.length : Int))) W (by omega))
    clear h0 hlt
    generalize n % (b.length : Int) = k at *
    go_enter Tryz.func57, Tryz.ntmps57
    go_wp2_with fail
    refine (HR.out _).mono ?_
    rintro e wl ⟨rfl, rfl⟩
    go_wp2_with fail
    refine (HT.out _).mono ?_
    rintro e w1 ⟨rfl, hb1⟩
    go_wp2_with fail
    refine (HC.out _).mono ?_
    rintro e w2 ⟨rfl, hb2⟩
    go_wp2
    go_ret
    exact ⟨ret_str HF.out.symm, hb1.trans (hb2.mono hb1.size)⟩

/-- The act's own box, and the network's, in emitted. -/
theorem ac_at {W : World} {b : Nat} {t : Ac} (h : Blk W b 49 (acBox t)) : W.cell? ⟨b, 0, none⟩ = some (.int .i64 t.H) ∧ W.cell? ⟨b, 1, none⟩ = some (.int .i64 t.N) ∧ W.cell? ⟨b, 2, none⟩ = some (.string ⟨t.T.toArray⟩) :=
  ⟨by rw [h.at]; rfl, by rw [h.at]; rfl, by rw [h.at]; rfl⟩

set_option maxHeartbeats 3200000 in
theorem lemitted_any (c : Cf) (ca : Option Addr) (cc : Nat) (t : Ac) (r s : Int) (b : List UInt8) (w : World) (hc : c.Ok) (r0 : 0 ≤ r) (r1 : r ≤ 1099511627776) (s0 : 0 ≤ s) (s1 : s < slotsI c) (hb : b.length ≤ 1048576) (ht : t.T.length ≤ 1048576) :
    Calls Tryz.prog 37 #[.agg #[.int .i64 c.N, .int .i64 c.Pi, .int .i64 c.E, .int .i64 c.G, .int .i64 c.F, .slice ca c.P.length cc], .agg #[.int .i64 t.H, .int .i64 t.N, .string ⟨t.T.toArray⟩], .int .i64 r, .int .i64 s, .string ⟨b.toArray⟩] w fun e w' => e = .returned (.string ⟨(actL c t r s b).toArray⟩) ∧ Below w.heap.size w w' := by
  have hB0 : Below w.heap.size w ((w.alloc (.cells #[.int .i64 c.N, .int .i64 c.Pi, .int .i64 c.E, .int .i64 c.G, .int .i64 c.F, .slice ca c.P.length cc] 24)).alloc (.cells #[.int .i64 t.H, .int .i64 t.N, .string ⟨t.T.toArray⟩] 49)) := (alloc_below w _).alloc (by simp) _
  have hC0 : Blk ((w.alloc (.cells #[.int .i64 c.N, .int .i64 c.Pi, .int .i64 c.E, .int .i64 c.G, .int .i64 c.F, .slice ca c.P.length cc] 24)).alloc (.cells #[.int .i64 t.H, .int .i64 t.N, .string ⟨t.T.toArray⟩] 49)) w.heap.size 24 (confBox c ca cc) := (Blk.new w _ _).alloc _
  have hA0 : Blk ((w.alloc (.cells #[.int .i64 c.N, .int .i64 c.Pi, .int .i64 c.E, .int .i64 c.G, .int .i64 c.F, .slice ca c.P.length cc] 24)).alloc (.cells #[.int .i64 t.H, .int .i64 t.N, .string ⟨t.T.toArray⟩] 49)) (w.heap.size + 1) 49 (acBox t) := Blk.newAt _ _ (by simp)
  have hs0 : ((w.alloc (.cells #[.int .i64 c.N, .int .i64 c.Pi, .int .i64 c.E, .int .i64 c.G, .int .i64 c.F, .slice ca c.P.length cc] 24)).alloc (.cells #[.int .i64 t.H, .int .i64 t.N, .string ⟨t.T.toArray⟩] 49)).heap.size = w.heap.size + 2 := by simp
  have hm0 := Int.emod_nonneg t.H (show (7 : Int) ≠ 0 by omega)
  have hm7 := Int.emod_lt_of_pos t.H (show (0 : Int) < 7 by omega)
  have HR := Lib.hid (fun W => lrem_any t.H 7 W (by omega) (by omega))
  have HX := Lib.hid (show actL c t r s b = if t.H % 7 = 1 then b else if t.H % 7 = 2 then b.take (t.N % ((b.length : Int) + 1)).toNat else if t.H % 7 = 3 then clean t.T else if t.H % 7 = 4 then turnedL b t.N
    else if t.H % 7 = 5 then textF (payF (dataF c r s b) t.N) else if t.H % 7 = 6 then textF (echF (dataF c r s b) t.N) else [] from rfl)
  rcases (by omega : t.H % 7 = 0 ∨ t.H % 7 = 1 ∨ t.H % 7 = 2 ∨ t.H % 7 = 3 ∨ t.H % 7 = 4 ∨ t.H % 7 = 5 ∨ t.H % 7 = 6) with h | h | h | h | h | h | h
  · rw [h] at HR HX
    have HE := Lib.hid (show actL c t r s b = [] by rw [HX.out]; rfl)
    clear h hm0 hm7 HX
    go_enter Tryz.func37, Tryz.ntmps37
    go_wp2_with fail
    refine (HR.out _).mono ?_
    rintro e wl ⟨rfl, rfl⟩
    go_wp2
    go_ret
    exact ⟨ret_str HE.out.symm, hB0⟩
  · rw [h] at HR HX
    have HE := Lib.hid (show actL c t r s b = b by rw [HX.out]; rfl)
    clear h hm0 hm7 HX
    go_enter Tryz.func37, Tryz.ntmps37
    go_wp2_with fail
    refine (HR.out _).mono ?_
    rintro e wl ⟨rfl, rfl⟩
    go_wp2_with fail
    refine (clone_any ⟨b.toArray⟩ _ (by rw [size_mk]; omega)).mono ?_
    rintro e wn ⟨rfl, hb1⟩
    go_wp2
    go_ret
    exact ⟨ret_str HE.out.symm, hB0.trans (hb1.mono hB0.size)⟩
  · rw [h] at HR HX
    have hp0 := Int.emod_nonneg t.N (show (b.length : Int) + 1 ≠ 0 by omega)
    have hp1 := Int.emod_lt_of_pos t.N (show (0 : Int) < (b.length : Int) + 1 by omega)
    have HP := Lib.hid (fun W => lrem_any t.N ((b.length : Int) + 1) W (by omega) (by omega))
    have HE := Lib.hid (show actL c t r s b = b.take (t.N % ((b.length : Int) + 1)).toNat by rw [HX.out]; rfl)
    obtain ⟨k, hk⟩ : ∃ k : Nat, t.N % ((b.length : Int) + 1) = k := ⟨(t.N % ((b.length : Int) + 1)).toNat, by omega⟩
    rw [hk] at HP HE hp1
    have hkb : k ≤ b.length := by omega
    clear h hm0 hm7 HX hk hp0 hp1
    go_enter Tryz.func37, Tryz.ntmps37
    go_wp2_with fail
    refine (HR.out _).mono ?_
    rintro e wl ⟨rfl, rfl⟩
    go_wp2_with fail
    refine (HP.out _).mono ?_
    rintro e wl ⟨rfl, rfl⟩
    go_wp2_with fail
    refine (clone_any ⟨(b.take k).toArray⟩ _ (by rw [size_mk]; simp; omega)).mono ?_
    rintro e wn ⟨rfl, hb1⟩
    go_wp2
    go_ret
    exact ⟨ret_str (by rw [HE.out]; simp), hB0.trans (hb1.mono hB0.size)⟩
  · rw [h] at HR HX
    have HE := Lib.hid (show actL c t r s b = clean t.T by rw [HX.out]; rfl)
    clear h hm0 hm7 HX
    go_enter Tryz.func37, Tryz.ntmps37
    go_wp2_with fail
    refine (HR.out _).mono ?_
    rintro e wl ⟨rfl, rfl⟩
    go_wp2_with fail
    refine (clean_any t.T _ (by omega)).mono ?_
    rintro e wn ⟨rfl, hb1⟩
    go_wp2
    go_ret
    exact ⟨ret_str HE.out.symm, hB0.trans (hb1.mono hB0.size)⟩
  · rw [h] at HR HX
    have HE := Lib.hid (show actL c t r s b = turnedL b t.N by rw [HX.out]; rfl)
    clear h hm0 hm7 HX
    go_enter Tryz.func37, Tryz.ntmps37
    go_wp2_with fail
    refine (HR.out _).mono ?_
    rintro e wl ⟨rfl, rfl⟩
    go_wp2_with fail
    refine (lturned_any b t.N _ hb).mono ?_
    rintro e wn ⟨rfl, hb1⟩
    go_wp2
    go_ret
    exact ⟨ret_str HE.out.symm, hB0.trans (hb1.mono hB0.size)⟩
  · rw [h] at HR HX
    have HE := Lib.hid (show actL c t r s b = textF (payF (dataF c r s b) t.N) by rw [HX.out]; rfl)
    have hok := dataF_ok c r s b hc s0 s1
    have hokp := payF_ok hok.1 hok.2 t.N
    have HD := Lib.hid (fun W => ldataOf_any c ca cc r s b W hc r0 r1 hb)
    have HT := Lib.hid (fun W (a : Option Addr) (cap : Nat) (h : RowT W a (payF (dataF c r s b) t.N).E) => fText_ok c ca cc (payF (dataF c r s b) t.N) a cap W hc hokp h)
    clear h hm0 hm7 HX hok hokp
    generalize dataF c r s b = f at *
    go_enter Tryz.func37, Tryz.ntmps37
    go_wp2_with fail
    refine (HR.out _).mono ?_
    rintro e wl ⟨rfl, rfl⟩
    go_wp2_with fail
    refine (HD.out _).mono ?_
    rintro e wn ⟨fa, fc, rfl, hrf, hff, hb1⟩
    replace hB0 := hB0.trans (hb1.mono hB0.size)
    replace hC0 := (hC0.later hb1).alloc (.cells #[.int .i64 f.K, .int .i64 f.R, .int .i64 f.S, .int .i64 f.P.K, .int .i64 f.P.V, .slice fa f.E.length fc] 32)
    replace hA0 := (hA0.later hb1).alloc (.cells #[.int .i64 f.K, .int .i64 f.R, .int .i64 f.S, .int .i64 f.P.K, .int .i64 f.P.V, .slice fa f.E.length fc] 32)
    have hne : f.E = [] ∨ ∀ x, fa = some x → x.block ≠ wn.heap.size := by
      rcases hrf.2.2 with h3 | ⟨b', off, e', hlt, _⟩
      · exact .inl h3
      · exact .inr fun x hx => by rw [e'] at hx; injection hx with hx; subst hx; show b' ≠ _; omega
    have hG : Blk (wn.alloc (.cells #[.int .i64 f.K, .int .i64 f.R, .int .i64 f.S, .int .i64 f.P.K, .int .i64 f.P.V, .slice fa f.E.length fc] 32)) wn.heap.size 32 (frBox f fa fc) := Blk.new wn _ _
    have hcn : w.heap.size < wn.heap.size := by have h1 := hs0; have h2 := hb1.size; omega
    replace hrf := hrf.alloc (.cells #[.int .i64 f.K, .int .i64 f.R, .int .i64 f.S, .int .i64 f.P.K, .int .i64 f.P.V, .slice fa f.E.length fc] 32)
    replace hB0 := hB0.alloc hB0.size (.cells #[.int .i64 f.K, .int .i64 f.R, .int .i64 f.S, .int .i64 f.P.K, .int .i64 f.P.V, .slice fa f.E.length fc] 32)
    clear hb1 hff hs0
    go_upto_region 12 with fail
    generalize wn.alloc (.cells #[.int .i64 f.K, .int .i64 f.R, .int .i64 f.S, .int .i64 f.P.K, .int .i64 f.P.V, .slice fa f.E.length fc] 32) = wk at *
    generalize wn.heap.size = gb at *
    obtain ⟨q0, q1, q2⟩ := ac_at hA0
    go_wp2_with fail
    refine (lvalue_any t.N _).mono ?_
    rintro e wj ⟨rfl, hb1⟩
    replace hB0 := hB0.trans (hb1.mono hB0.size)
    replace hC0 := hC0.later hb1
    replace hG := hG.later hb1
    replace hrf := hrf.later hb1
    have hFz := hG.frozen
    have hQg := hG.at
    unfold frBox at hQg
    have k2 : Blk ((wj.setCell ⟨gb, 3, none⟩ (.int .i64 2)).setCell ⟨gb, 4, none⟩ (.int .i64 (t.N % 256))) gb 32 (frBox (payF f t.N) fa fc) := (hG.set 3 _).set 4 _
    replace hC0 := (hC0.far (p := ⟨gb, 3, none⟩) (by show w.heap.size ≠ gb; omega) (.int .i64 2)).far (p := ⟨gb, 4, none⟩) (by show w.heap.size ≠ gb; omega) (.int .i64 (t.N % 256))
    replace hrf := (hrf.far2 gb 3 (.int .i64 2) hne).far2 gb 4 (.int .i64 (t.N % 256)) hne
    replace hB0 := (hB0.setCell (p := ⟨gb, 3, none⟩) (by show w.heap.size ≤ gb; omega) (.int .i64 2)).setCell (p := ⟨gb, 4, none⟩) (by show w.heap.size ≤ gb; omega) (.int .i64 (t.N % 256))
    clear hb1 q0 q1 q2 hA0
    go_upto_region 13 with fail
    generalize (wj.setCell ⟨gb, 3, none⟩ (.int .i64 2)).setCell ⟨gb, 4, none⟩ (.int .i64 (t.N % 256)) = wi at *
    clear hFz hQg hG
    have hQg := k2.at
    unfold frBox at hQg
    have hQc := hC0.at
    unfold confBox at hQc
    go_wp2_with fail
    refine (HT.out _ fa fc hrf).mono ?_
    rintro e wh ⟨rfl, hb1⟩
    go_wp2
    go_ret
    exact ⟨ret_str HE.out.symm, hB0.trans (hb1.mono hB0.size)⟩
  · rw [h] at HR HX
    have HE := Lib.hid (show actL c t r s b = textF (echF (dataF c r s b) t.N) by rw [HX.out]; rfl)
    have hok := dataF_ok c r s b hc s0 s1
    have hoke := echF_ok hok.1 t.N
    have HD := Lib.hid (fun W => ldataOf_any c ca cc r s b W hc r0 r1 hb)
    have hEl := (ok_small hc hok.1).2.2.2.2.2
    clear h hm0 hm7 HX hok
    generalize dataF c r s b = f at *
    obtain ⟨TS, hTS⟩ : ∃ TS, TS = List.replicate f.E.length (⟨2, t.N % 256⟩ : It) := ⟨_, rfl⟩
    have HP := Lib.hid (fun (W : World) (H c : Nat) (h : Blk W H 29 #[.int .i64 2, .int .i64 (t.N % 256)]) => show Calls Tryz.prog 61 #[.slice (some ⟨H, 0, none⟩) 1 c, .int .i64 f.E.length] W fun e w' => ∃ (a : Option Addr) (cap : Nat), e = .returned (.slice a TS.length cap) ∧ RowT w' a TS ∧ (∀ x, a = some x → W.heap.size ≤ x.block) ∧ Below W.heap.size W w' by
      rw [hTS, List.length_replicate]
      exact lrepeat_any ⟨2, t.N % 256⟩ H c f.E.length W h (by omega) ⟨by show (-9223372036854775808 : Int) ≤ 2; omega, by show (2 : Int) ≤ 9223372036854775807; omega⟩ ⟨by show (-9223372036854775808 : Int) ≤ t.N % 256; omega, by show t.N % 256 ≤ 9223372036854775807; omega⟩)
    have hg : echF f t.N = ⟨f.K, f.R, f.S, f.P, TS⟩ := by rw [hTS]; rfl
    rw [hg] at hoke HE
    have HT := Lib.hid (fun W (a : Option Addr) (cap : Nat) (h : RowT W a TS) => fText_ok c ca cc ⟨f.K, f.R, f.S, f.P, TS⟩ a cap W hc hoke h)
    clear hg hoke hTS
    go_enter Tryz.func37, Tryz.ntmps37
    go_wp2_with fail
    refine (HR.out _).mono ?_
    rintro e wl ⟨rfl, rfl⟩
    go_wp2_with fail
    refine (HD.out _).mono ?_
    rintro e wn ⟨fa, fc, rfl, hrf, hff, hb1⟩
    replace hB0 := hB0.trans (hb1.mono hB0.size)
    replace hC0 := (hC0.later hb1).alloc (.cells #[.int .i64 f.K, .int .i64 f.R, .int .i64 f.S, .int .i64 f.P.K, .int .i64 f.P.V, .slice fa f.E.length fc] 32)
    replace hA0 := (hA0.later hb1).alloc (.cells #[.int .i64 f.K, .int .i64 f.R, .int .i64 f.S, .int .i64 f.P.K, .int .i64 f.P.V, .slice fa f.E.length fc] 32)
    have hG : Blk (wn.alloc (.cells #[.int .i64 f.K, .int .i64 f.R, .int .i64 f.S, .int .i64 f.P.K, .int .i64 f.P.V, .slice fa f.E.length fc] 32)) wn.heap.size 32 (frBox f fa fc) := Blk.new wn _ _
    have hcn : w.heap.size < wn.heap.size := by have h1 := hs0; have h2 := hb1.size; omega
    have hwk : wn.heap.size < (wn.alloc (.cells #[.int .i64 f.K, .int .i64 f.R, .int .i64 f.S, .int .i64 f.P.K, .int .i64 f.P.V, .slice fa f.E.length fc] 32)).heap.size := hG.lt
    replace hB0 := hB0.alloc hB0.size (.cells #[.int .i64 f.K, .int .i64 f.R, .int .i64 f.S, .int .i64 f.P.K, .int .i64 f.P.V, .slice fa f.E.length fc] 32)
    clear hb1 hff hs0 hrf HR HD
    go_upto_region 16 with fail
    generalize wn.alloc (.cells #[.int .i64 f.K, .int .i64 f.R, .int .i64 f.S, .int .i64 f.P.K, .int .i64 f.P.V, .slice fa f.E.length fc] 32) = wk at *
    generalize wn.heap.size = gb at *
    have HV := Lib.hid (fun W => lvalue_any t.N W)
    refine region_tail [some 63, some 64, some 65, some 66, some 67, some 68, some 69, some 70, some 71, none] [none, none, none, none, none, none, none, none, none, none] 75 9 (by kernel_rfl) (by kernel_rfl) rfl rfl ?_
    simp only [List.take_succ_cons, List.take_zero, List.drop_succ_cons, List.drop_zero]
    apply step_fix
    · intro a W Zs hS hFm hz hd
      have h6 := hFm.old 6 rfl
      conv at h6 => rhs; whnf
      replace h6 := ev_get hFm.size h6
      refine .inl ⟨wanted_none rfl _, fun K hK => ?_⟩
      have HK := Lib.hid hK
      clear hd hFm hK
      go_simp
      exact HK.out _ _ rfl (Below.refl _ _)
    simp only [List.nil_append, List.cons_append]
    apply step_fix
    · intro a W Zs hS hFm hz hd
      have h63 := ev_get hFm.size (hd 0 63 rfl rfl)
      have hq := (hA0.drew1.later hS).at
      unfold acBox at hq
      refine .inl ⟨wanted_none rfl _, fun K hK => ?_⟩
      have HK := Lib.hid hK
      clear hd hFm hK
      go_simp
      exact HK.out _ _ rfl (Below.refl _ _)
    simp only [List.nil_append, List.cons_append]
    apply step_fix
    · intro a W Zs hS hFm hz hd
      have h64 := ev_get hFm.size (hd 1 64 rfl rfl)
      refine .inl ⟨wanted_none rfl _, fun K hK => ?_⟩
      have HK := Lib.hid hK
      clear hd hFm hK
      go_simp
      refine (HV.out _).mono ?_
      rintro e W' ⟨rfl, hb⟩
      exact HK.out _ _ rfl hb
    simp only [List.nil_append, List.cons_append]
    apply step_blk
    · intro a W Zs hS hFm hz hd
      have h65 := ev_get hFm.size (hd 2 65 rfl rfl)
      refine .inl ⟨wanted_none rfl _, fun K hK => ?_⟩
      have HK := Lib.hid hK
      clear hd hFm hK
      go_simp
      exact HK.out _ _ ⟨_, rfl, Blk.new _ _ _, .inr (.inl ⟨Nat.le_refl _, by simp⟩)⟩ (alloc_below _ _)
    simp only [List.nil_append, List.cons_append]
    apply step_fix
    · intro a W Zs hS hFm hz hd
      have h12 := hFm.old 12 rfl
      conv at h12 => rhs; whnf
      replace h12 := ev_get hFm.size h12
      refine .inl ⟨wanted_none rfl _, fun K hK => ?_⟩
      have HK := Lib.hid hK
      clear hd hFm hK
      go_simp
      exact HK.out _ _ rfl (Below.refl _ _)
    simp only [List.nil_append, List.cons_append]
    apply step_fix
    · intro a W Zs hS hFm hz hd
      have h67 := ev_get hFm.size (hd 4 67 rfl rfl)
      have hq := (hG.drew1.later hS).at
      unfold frBox at hq
      refine .inl ⟨wanted_none rfl _, fun K hK => ?_⟩
      have HK := Lib.hid hK
      clear hd hFm hK
      go_simp
      exact HK.out _ _ rfl (Below.refl _ _)
    simp only [List.nil_append, List.cons_append]
    apply step_fix
    · intro a W Zs hS hFm hz hd
      have h68 := ev_get hFm.size (hd 5 68 rfl rfl)
      refine .inl ⟨wanted_none rfl _, fun K hK => ?_⟩
      have HK := Lib.hid hK
      clear hd hFm hK
      go_simp
      exact HK.out _ _ rfl (Below.refl _ _)
    simp only [List.nil_append, List.cons_append]
    refine step_of (rowTNF _ (TS)) (rowTNF_good _ _) ?_ ?_
    · intro a W Zs hS hFm hz hd
      obtain ⟨b66, e66, q66, f66⟩ := hd 3 66 rfl rfl
      have h66 := ev_get hFm.size e66
      have h69 := ev_get hFm.size (hd 6 69 rfl rfl)
      refine .inl ⟨wanted_none rfl _, fun K hK => ?_⟩
      have HK := Lib.hid hK
      clear hd hFm hK
      go_simp
      refine (HP.out _ _ _ q66).mono ?_
      rintro e W' ⟨ra, rc, rfl, hr, hfr, hb⟩
      exact HK.out _ _ ⟨ra, rc, rfl, hr, hr.foot hfr, fun x hx => Nat.le_trans hS.size (hfr x hx)⟩ hb
    simp only [List.nil_append, List.cons_append]
    apply step_fix
    · intro a W Zs hS hFm hz hd
      have h12 := hFm.old 12 rfl
      conv at h12 => rhs; whnf
      replace h12 := ev_get hFm.size h12
      refine .inl ⟨wanted_none rfl _, fun K hK => ?_⟩
      have HK := Lib.hid hK
      clear hd hFm hK
      go_simp
      exact HK.out _ _ rfl (Below.refl _ _)
    simp only [List.nil_append, List.cons_append]
    intro a wj Zs hS hFm hz hd
    obtain ⟨a70, c70, e70, r70, f70, nn70⟩ := hd 7 70 (by decide) rfl
    have e71 := hd 8 71 (by decide) rfl
    have e0 := hFm.old 0 rfl
    conv at e0 => rhs; whnf
    have e1 := hFm.old 1 rfl
    conv at e1 => rhs; whnf
    have e2 := hFm.old 2 rfl
    conv at e2 => rhs; whnf
    have e3 := hFm.old 3 rfl
    conv at e3 => rhs; whnf
    have e4 := hFm.old 4 rfl
    conv at e4 => rhs; whnf
    have e5 := hFm.old 5 rfl
    conv at e5 => rhs; whnf
    have e6 := hFm.old 6 rfl
    conv at e6 => rhs; whnf
    have e7 := hFm.old 7 rfl
    conv at e7 => rhs; whnf
    have e8 := hFm.old 8 rfl
    conv at e8 => rhs; whnf
    have e9 := hFm.old 9 rfl
    conv at e9 => rhs; whnf
    have e10 := hFm.old 10 rfl
    conv at e10 => rhs; whnf
    have e11 := hFm.old 11 rfl
    conv at e11 => rhs; whnf
    have e12 := hFm.old 12 rfl
    conv at e12 => rhs; whnf
    have e13 := hFm.old 13 rfl
    conv at e13 => rhs; whnf
    have e14 := hFm.old 14 rfl
    conv at e14 => rhs; whnf
    have e15 := hFm.old 15 rfl
    conv at e15 => rhs; whnf
    have e16 := hFm.old 16 rfl
    conv at e16 => rhs; whnf
    have e17 := hFm.old 17 rfl
    conv at e17 => rhs; whnf
    have e18 := hFm.old 18 rfl
    conv at e18 => rhs; whnf
    have e19 := hFm.old 19 rfl
    conv at e19 => rhs; whnf
    have e20 := hFm.old 20 rfl
    conv at e20 => rhs; whnf
    have e21 := hFm.old 21 rfl
    conv at e21 => rhs; whnf
    have e22 := hFm.old 22 rfl
    conv at e22 => rhs; whnf
    have e23 := hFm.old 23 rfl
    conv at e23 => rhs; whnf
    have e24 := hFm.old 24 rfl
    conv at e24 => rhs; whnf
    have e25 := hFm.old 25 rfl
    conv at e25 => rhs; whnf
    have e26 := hFm.old 26 rfl
    conv at e26 => rhs; whnf
    have e27 := hFm.old 27 rfl
    conv at e27 => rhs; whnf
    have e28 := hFm.old 28 rfl
    conv at e28 => rhs; whnf
    have e29 := hFm.old 29 rfl
    conv at e29 => rhs; whnf
    have e30 := hFm.old 30 rfl
    conv at e30 => rhs; whnf
    have e31 := hFm.old 31 rfl
    conv at e31 => rhs; whnf
    have e32 := hFm.old 32 rfl
    conv at e32 => rhs; whnf
    have e33 := hFm.old 33 rfl
    conv at e33 => rhs; whnf
    have e34 := hFm.old 34 rfl
    conv at e34 => rhs; whnf
    have e35 := hFm.old 35 rfl
    conv at e35 => rhs; whnf
    have e36 := hFm.old 36 rfl
    conv at e36 => rhs; whnf
    have e37 := hFm.old 37 rfl
    conv at e37 => rhs; whnf
    have e38 := hFm.old 38 rfl
    conv at e38 => rhs; whnf
    have e39 := hFm.old 39 rfl
    conv at e39 => rhs; whnf
    have e40 := hFm.old 40 rfl
    conv at e40 => rhs; whnf
    have e41 := hFm.old 41 rfl
    conv at e41 => rhs; whnf
    have e42 := hFm.old 42 rfl
    conv at e42 => rhs; whnf
    have e43 := hFm.old 43 rfl
    conv at e43 => rhs; whnf
    have e44 := hFm.old 44 rfl
    conv at e44 => rhs; whnf
    have e45 := hFm.old 45 rfl
    conv at e45 => rhs; whnf
    have e46 := hFm.old 46 rfl
    conv at e46 => rhs; whnf
    have e47 := hFm.old 47 rfl
    conv at e47 => rhs; whnf
    have e48 := hFm.old 48 rfl
    conv at e48 => rhs; whnf
    have e49 := hFm.old 49 rfl
    conv at e49 => rhs; whnf
    have e50 := hFm.old 50 rfl
    conv at e50 => rhs; whnf
    have e51 := hFm.old 51 rfl
    conv at e51 => rhs; whnf
    have e52 := hFm.old 52 rfl
    conv at e52 => rhs; whnf
    have e53 := hFm.old 53 rfl
    conv at e53 => rhs; whnf
    have e54 := hFm.old 54 rfl
    conv at e54 => rhs; whnf
    have e55 := hFm.old 55 rfl
    conv at e55 => rhs; whnf
    have e56 := hFm.old 56 rfl
    conv at e56 => rhs; whnf
    have e57 := hFm.old 57 rfl
    conv at e57 => rhs; whnf
    have e58 := hFm.old 58 rfl
    conv at e58 => rhs; whnf
    have e59 := hFm.old 59 rfl
    conv at e59 => rhs; whnf
    have e60 := hFm.old 60 rfl
    conv at e60 => rhs; whnf
    have e61 := hFm.old 61 rfl
    conv at e61 => rhs; whnf
    have e62 := hFm.old 62 rfl
    conv at e62 => rhs; whnf
    have e72 := hFm.old 72 rfl
    conv at e72 => rhs; whnf
    have e73 := hFm.old 73 rfl
    conv at e73 => rhs; whnf
    have e74 := hFm.old 74 rfl
    conv at e74 => rhs; whnf
    have hsz := hFm.size
    have hdf := hFm.defers
    clear hd hFm
    obtain ⟨t, df⟩ := a
    simp only at hsz hdf
    subst hdf
    obtain ⟨x, hx⟩ : ∃ x : Nat → Value, ∀ i, t.getD i undef = x i := ⟨fun i => t.getD i undef, fun _ => rfl⟩
    have h70 := (hx 70).symm.trans e70
    have h71 := (hx 71).symm.trans e71
    have h0 := (hx 0).symm.trans e0
    have h1 := (hx 1).symm.trans e1
    have h2 := (hx 2).symm.trans e2
    have h3 := (hx 3).symm.trans e3
    have h4 := (hx 4).symm.trans e4
    have h5 := (hx 5).symm.trans e5
    have h6 := (hx 6).symm.trans e6
    have h7 := (hx 7).symm.trans e7
    have h8 := (hx 8).symm.trans e8
    have h9 := (hx 9).symm.trans e9
    have h10 := (hx 10).symm.trans e10
    have h11 := (hx 11).symm.trans e11
    have h12 := (hx 12).symm.trans e12
    have h13 := (hx 13).symm.trans e13
    have h14 := (hx 14).symm.trans e14
    have h15 := (hx 15).symm.trans e15
    have h16 := (hx 16).symm.trans e16
    have h17 := (hx 17).symm.trans e17
    have h18 := (hx 18).symm.trans e18
    have h19 := (hx 19).symm.trans e19
    have h20 := (hx 20).symm.trans e20
    have h21 := (hx 21).symm.trans e21
    have h22 := (hx 22).symm.trans e22
    have h23 := (hx 23).symm.trans e23
    have h24 := (hx 24).symm.trans e24
    have h25 := (hx 25).symm.trans e25
    have h26 := (hx 26).symm.trans e26
    have h27 := (hx 27).symm.trans e27
    have h28 := (hx 28).symm.trans e28
    have h29 := (hx 29).symm.trans e29
    have h30 := (hx 30).symm.trans e30
    have h31 := (hx 31).symm.trans e31
    have h32 := (hx 32).symm.trans e32
    have h33 := (hx 33).symm.trans e33
    have h34 := (hx 34).symm.trans e34
    have h35 := (hx 35).symm.trans e35
    have h36 := (hx 36).symm.trans e36
    have h37 := (hx 37).symm.trans e37
    have h38 := (hx 38).symm.trans e38
    have h39 := (hx 39).symm.trans e39
    have h40 := (hx 40).symm.trans e40
    have h41 := (hx 41).symm.trans e41
    have h42 := (hx 42).symm.trans e42
    have h43 := (hx 43).symm.trans e43
    have h44 := (hx 44).symm.trans e44
    have h45 := (hx 45).symm.trans e45
    have h46 := (hx 46).symm.trans e46
    have h47 := (hx 47).symm.trans e47
    have h48 := (hx 48).symm.trans e48
    have h49 := (hx 49).symm.trans e49
    have h50 := (hx 50).symm.trans e50
    have h51 := (hx 51).symm.trans e51
    have h52 := (hx 52).symm.trans e52
    have h53 := (hx 53).symm.trans e53
    have h54 := (hx 54).symm.trans e54
    have h55 := (hx 55).symm.trans e55
    have h56 := (hx 56).symm.trans e56
    have h57 := (hx 57).symm.trans e57
    have h58 := (hx 58).symm.trans e58
    have h59 := (hx 59).symm.trans e59
    have h60 := (hx 60).symm.trans e60
    have h61 := (hx 61).symm.trans e61
    have h62 := (hx 62).symm.trans e62
    have h72 := (hx 72).symm.trans e72
    have h73 := (hx 73).symm.trans e73
    have h74 := (hx 74).symm.trans e74
    have ht' : t = #[x 0, x 1, x 2, x 3, x 4, x 5, x 6, x 7, x 8, x 9, x 10, x 11, x 12, x 13, x 14, x 15, x 16, x 17, x 18, x 19, x 20, x 21, x 22, x 23, x 24, x 25, x 26, x 27, x 28, x 29, x 30, x 31, x 32, x 33, x 34, x 35, x 36, x 37, x 38, x 39, x 40, x 41, x 42, x 43, x 44, x 45, x 46, x 47, x 48, x 49, x 50, x 51, x 52, x 53, x 54, x 55, x 56, x 57, x 58, x 59, x 60, x 61, x 62, x 63, x 64, x 65, x 66, x 67, x 68, x 69, x 70, x 71, x 72, x 73, x 74] := frame_lit t 75 hsz x hx
    clear hx hsz hz e70 e71 e0 e1 e2 e3 e4 e5 e6 e7 e8 e9 e10 e11 e12 e13 e14 e15 e16 e17 e18 e19 e20 e21 e22 e23 e24 e25 e26 e27 e28 e29 e30 e31 e32 e33 e34 e35 e36 e37 e38 e39 e40 e41 e42 e43 e44 e45 e46 e47 e48 e49 e50 e51 e52 e53 e54 e55 e56 e57 e58 e59 e60 e61 e62 e72 e73 e74
    subst ht'
    dsimp only
    rw [h70, h71, h0, h1, h2, h3, h4, h5, h6, h7, h8, h9, h10, h11, h12, h13, h14, h15, h16, h17, h18, h19, h20, h21, h22, h23, h24, h25, h26, h27, h28, h29, h30, h31, h32, h33, h34, h35, h36, h37, h38, h39, h40, h41, h42, h43, h44, h45, h46, h47, h48, h49, h50, h51, h52, h53, h54, h55, h56, h57, h58, h59, h60, h61, h62, h72, h73, h74]
    clear h70 h71 h0 h1 h2 h3 h4 h5 h6 h7 h8 h9 h10 h11 h12 h13 h14 h15 h16 h17 h18 h19 h20 h21 h22 h23 h24 h25 h26 h27 h28 h29 h30 h31 h32 h33 h34 h35 h36 h37 h38 h39 h40 h41 h42 h43 h44 h45 h46 h47 h48 h49 h50 h51 h52 h53 h54 h55 h56 h57 h58 h59 h60 h61 h62 h72 h73 h74
    have hb1 := from_drew hS
    replace hB0 := hB0.trans (hb1.mono hB0.size)
    replace hC0 := hC0.later hb1
    replace hG := hG.later hb1
    have hFz := hG.frozen
    have hQg := hG.at
    unfold frBox at hQg
    have hnew : ∀ x, a70 = some x → x.block ≠ gb := fun x hx => by have := nn70 x hx; have h2 : wk.drew.heap.size = wk.heap.size := rfl; omega
    have k2 : Blk (wj.setCell ⟨gb, 5, none⟩ (.slice a70 TS.length c70)) gb 32 (frBox ⟨f.K, f.R, f.S, f.P, TS⟩ a70 c70) := hG.set 5 _
    replace hC0 := hC0.far (p := ⟨gb, 5, none⟩) (by show w.heap.size ≠ gb; omega) (.slice a70 TS.length c70)
    have hrf := r70.far2 gb 5 (.slice a70 TS.length c70) (.inr hnew)
    replace hB0 := hB0.setCell (p := ⟨gb, 5, none⟩) (by show w.heap.size ≤ gb; omega) (.slice a70 TS.length c70)
    clear hS hb1 hA0 HV HP r70 f70 nn70
    go_upto_region 17 with fail
    generalize wj.setCell ⟨gb, 5, none⟩ (.slice a70 TS.length c70) = wi at *
    clear hFz hQg hG
    have hQg := k2.at
    unfold frBox at hQg
    have hQc := hC0.at
    unfold confBox at hQc
    go_wp2_with fail
    refine (HT.out _ a70 c70 hrf).mono ?_
    rintro e wh ⟨rfl, hb1⟩
    go_wp2
    go_ret
    exact ⟨ret_str HE.out.symm, hB0.trans (hb1.mono hB0.size)⟩

end Go.Proofs.YtbghpkdkfbpmeaaGreat
