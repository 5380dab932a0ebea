/-
  FrameReads' walk.
-/
import Derived.Test.YtafcjdcmbklfkaaLaw53
import Derived.Test.YtafcjdcmbklfkaaSlots3
import Derived.Test.YtafcjdcmbklfkaaLaw1
namespace Go.Proofs.Ytafcjdcmbklfkaa
open Go.RowKit Plait
set_option linter.unusedVariables false
set_option linter.unusedSimpArgs false

theorem rRead_at (d : Cf) (da : Option Addr) (dc : Nat) (t : List UInt8) (w : World) (hok : d.Ok) (hrow : Row w da d.P) (hs : t.length ≤ 1048576) (p : Fr) (er : Int) (h : readF d t = (p, er)) :
    Calls Try.prog 30 #[.agg #[.int .i64 d.N, .int .i64 d.Pi, .int .i64 d.E, .int .i64 d.G, .int .i64 d.F, .slice da d.P.length dc], .string ⟨t.toArray⟩] w fun e w' => ∃ (a : Option Addr) (cap : Nat), e = .returned (.tuple #[.agg #[.int .i64 p.K, .int .i64 p.R, .int .i64 p.S, .int .i64 p.P.K, .int .i64 p.P.V, .slice a p.E.length cap], .int .i64 er]) ∧ RowT w' a p.E ∧ (∀ x, a = some x → w.heap.size ≤ x.block) ∧ Below w.heap.size w w' := by
  have hr := rRead_any d da dc t w hok hrow hs
  rw [h] at hr
  exact hr

theorem take_len (l : List UInt8) (k m : Nat) (h : l.length ≤ m) : (l.take k).length ≤ m := by rw [List.length_take]; omega
theorem wrapL_le (l : List UInt8) (m : Nat) (h : l.length ≤ m) : (wrapL l).length ≤ m + 17 := by rw [wrapL_length]; omega

/-- A row of eight texts. -/
def strs8 (l0 l1 l2 l3 l4 l5 l6 l7 : List UInt8) : Array Value := #[.string ⟨l0.toArray⟩, .string ⟨l1.toArray⟩, .string ⟨l2.toArray⟩, .string ⟨l3.toArray⟩, .string ⟨l4.toArray⟩, .string ⟨l5.toArray⟩, .string ⟨l6.toArray⟩, .string ⟨l7.toArray⟩]
theorem strs8_get (l0 l1 l2 l3 l4 l5 l6 l7 : List UInt8) (k : Nat) (hk : k < 8) (h0 : l0.length ≤ 1000) (h1 : l1.length ≤ 1000) (h2 : l2.length ≤ 1000) (h3 : l3.length ≤ 1000) (h4 : l4.length ≤ 1000) (h5 : l5.length ≤ 1000) (h6 : l6.length ≤ 1000) (h7 : l7.length ≤ 1000) :
    ∃ l : List UInt8, (strs8 l0 l1 l2 l3 l4 l5 l6 l7)[k]? = some (.string ⟨l.toArray⟩) ∧ l.length ≤ 1000 := by
  rcases (by omega : k = 0 ∨ k = 1 ∨ k = 2 ∨ k = 3 ∨ k = 4 ∨ k = 5 ∨ k = 6 ∨ k = 7) with rfl | rfl | rfl | rfl | rfl | rfl | rfl | rfl
  · exact ⟨l0, rfl, h0⟩
  · exact ⟨l1, rfl, h1⟩
  · exact ⟨l2, rfl, h2⟩
  · exact ⟨l3, rfl, h3⟩
  · exact ⟨l4, rfl, h4⟩
  · exact ⟨l5, rfl, h5⟩
  · exact ⟨l6, rfl, h6⟩
  · exact ⟨l7, rfl, h7⟩

/-- The loop over the texts. -/
def ReadsTo (d : Cf) (da : Option Addr) (dc db sb : Nat) (cs : Array Value) (w : World) (i : Value) (wx : World) : Prop :=
  ∃ k : Nat, k ≤ 8 ∧ i = .int .i64 k ∧ Below w.heap.size w wx ∧ Blk wx db 24 (confBox d da dc) ∧ Blk wx sb 9 cs ∧ Row wx da d.P

set_option maxRecDepth 100000 in
set_option maxHeartbeats 6400000 in
theorem frameReads_walk (c : Cf) (a : Option Addr) (cap : Nat) (f : Fr) (fa : Option Addr) (fc : Nat) (na : Option Addr) (ns : List Int) (nc : Nat) (at_ cut : Int) (ma : Option Addr) (ms : List Int) (mc : Nat) (raw : List UInt8) (w : World) (hrow : Row w a c.P) (iN : inI c.N) (iP : inI c.Pi) (iE : inI c.E) (iG : inI c.G) (iF : inI c.F)
    (hfE : RowT w fa f.E) (iK : inI f.K) (iR : inI f.R) (iS : inI f.S) (iQ : inI f.P.K) (iV : inI f.P.V) (hns : Row w na ns) (at1 : -9223372036854775808 ≤ at_) (at2 : at_ ≤ 9223372036854775807) (cu1 : -9223372036854775808 ≤ cut) (cu2 : cut ≤ 9223372036854775807) (hms : Row w ma ms) (hraw : raw.length ≤ 9223372036854775807) :
    Calls Try.prog 5 #[.agg #[.int .i64 c.N, .int .i64 c.Pi, .int .i64 c.E, .int .i64 c.G, .int .i64 c.F, .slice a c.P.length cap], .agg #[.int .i64 f.K, .int .i64 f.R, .int .i64 f.S, .int .i64 f.P.K, .int .i64 f.P.V, .slice fa f.E.length fc], .slice na ns.length nc, .int .i64 at_, .int .i64 cut, .slice ma ms.length mc, .string ⟨raw.toArray⟩] w fun e w' => e = .returned (.bool true) ∧ Below w.heap.size w w' := by
  by_cases hlr : 200 < raw.length
  · have d0 : decide (200 < raw.length) = true := by simpa using hlr
    have hB : Below w.heap.size w ((w.alloc (.cells #[.int .i64 c.N, .int .i64 c.Pi, .int .i64 c.E, .int .i64 c.G, .int .i64 c.F, .slice a c.P.length cap] 24)).alloc (.cells #[.int .i64 f.K, .int .i64 f.R, .int .i64 f.S, .int .i64 f.P.K, .int .i64 f.P.V, .slice fa f.E.length fc] 29)) := (alloc_below w _).alloc (by simp) _
    go_enter Try.func5, Try.ntmps5
    go_wp2_with fail
    refine (known5_any _).mono ?_
    rintro e wn ⟨rfl, hb⟩
    replace hB := hB.trans (hb.mono hB.size)
    go_wp2
    go_ret
    exact ⟨rfl, hB⟩
  have d0 : decide (200 < raw.length) = false := by simpa using hlr
  have hB1 : Below w.heap.size w (w.alloc (.cells #[.int .i64 c.N, .int .i64 c.Pi, .int .i64 c.E, .int .i64 c.G, .int .i64 c.F, .slice a c.P.length cap] 24)) := alloc_below w _
  have k_c : Blk (w.alloc (.cells #[.int .i64 c.N, .int .i64 c.Pi, .int .i64 c.E, .int .i64 c.G, .int .i64 c.F, .slice a c.P.length cap] 24)) w.heap.size 24 (confBox c a cap) := Blk.newAt _ _ rfl
  have hB2 : Below w.heap.size w ((w.alloc (.cells #[.int .i64 c.N, .int .i64 c.Pi, .int .i64 c.E, .int .i64 c.G, .int .i64 c.F, .slice a c.P.length cap] 24)).alloc (.cells #[.int .i64 f.K, .int .i64 f.R, .int .i64 f.S, .int .i64 f.P.K, .int .i64 f.P.V, .slice fa f.E.length fc] 29)) := hB1.alloc hB1.size _
  replace k_c := k_c.alloc (.cells #[.int .i64 f.K, .int .i64 f.R, .int .i64 f.S, .int .i64 f.P.K, .int .i64 f.P.V, .slice fa f.E.length fc] 29)
  have k_f : Blk ((w.alloc (.cells #[.int .i64 c.N, .int .i64 c.Pi, .int .i64 c.E, .int .i64 c.G, .int .i64 c.F, .slice a c.P.length cap] 24)).alloc (.cells #[.int .i64 f.K, .int .i64 f.R, .int .i64 f.S, .int .i64 f.P.K, .int .i64 f.P.V, .slice fa f.E.length fc] 29)) (w.heap.size + 1) 29 (frBox f fa fc) := Blk.newAt _ _ (by simp)
  have hB := hB2
  clear hB1 hB2
  go_enter Try.func5, Try.ntmps5
  go_wp2_with fail
  refine (known5_any _).mono ?_
  rintro e wn ⟨rfl, hb⟩
  replace hB := hB.trans (hb.mono hB.size)
  replace k_c := k_c.later hb
  replace k_f := k_f.later hb
  clear hb
  have qC := k_c.at
  unfold confBox at qC
  go_wp2_with fail
  refine (make_any c a cap _ (hrow.later hB)).mono ?_
  rintro e wm ⟨da, dc, rfl, hrd, hfd, hb⟩
  replace hB := hB.trans (hb.mono hB.size)
  replace k_f := k_f.later hb
  clear hb qC k_c hfd
  have hok := makeC_ok c
  generalize makeC c = d at *
  have hdb := k_f.lt
  have hD : Blk (wm.alloc (.cells #[.int .i64 d.N, .int .i64 d.Pi, .int .i64 d.E, .int .i64 d.G, .int .i64 d.F, .slice da d.P.length dc] 24)) wm.heap.size 24 (confBox d da dc) := Blk.new wm _ _
  replace hB := hB.alloc hB.size (.cells #[.int .i64 d.N, .int .i64 d.Pi, .int .i64 d.E, .int .i64 d.G, .int .i64 d.F, .slice da d.P.length dc] 24)
  replace k_f := k_f.alloc (.cells #[.int .i64 d.N, .int .i64 d.Pi, .int .i64 d.E, .int .i64 d.G, .int .i64 d.F, .slice da d.P.length dc] 24)
  replace hrd := hrd.alloc (.cells #[.int .i64 d.N, .int .i64 d.Pi, .int .i64 d.E, .int .i64 d.G, .int .i64 d.F, .slice da d.P.length dc] 24)
  go_upto_region 6 with fail
  generalize wm.alloc (.cells #[.int .i64 d.N, .int .i64 d.Pi, .int .i64 d.E, .int .i64 d.G, .int .i64 d.F, .slice da d.P.length dc] 24) = wn at *
  generalize wm.heap.size = db at *
  have hokg := makeF_ok d f ns hok
  replace hns := hns.later hB
  replace hms := hms.later hB
  refine region_slots [some 33, some 34, some 35, some 36, some 37, some 38, some 16] [none, none, none, none, none, none, none] 134 (by kernel_rfl) (by kernel_rfl) rfl rfl ?_
  apply step_fix
  · intro a W Zs hS hFm hz hd
    have h15 := hFm.old 15 rfl
    conv at h15 => rhs; whnf
    replace h15 := ev_get hFm.size h15
    have hq := (hD.drew1.later hS).at
    unfold confBox at hq
    refine .inl ⟨wanted_none rfl _, fun K hK => ?_⟩
    have HK := Lib.hid hK
    clear hd hFm hK
    go_simp
    exact HK.out _ _ rfl (Below.refl _ _)
  simp only [List.nil_append, List.cons_append]
  apply step_fix
  · intro a W Zs hS hFm hz hd
    have h15 := hFm.old 15 rfl
    conv at h15 => rhs; whnf
    replace h15 := ev_get hFm.size h15
    have hq := (hD.drew1.later hS).at
    unfold confBox at hq
    refine .inl ⟨wanted_none rfl _, fun K hK => ?_⟩
    have HK := Lib.hid hK
    clear hd hFm hK
    go_simp
    exact HK.out _ _ rfl (Below.refl _ _)
  simp only [List.nil_append, List.cons_append]
  apply step_fix
  · intro a W Zs hS hFm hz hd
    have h8 := hFm.old 8 rfl
    conv at h8 => rhs; whnf
    replace h8 := ev_get hFm.size h8
    have hq := (k_f.drew1.later hS).at
    unfold frBox at hq
    refine .inl ⟨wanted_none rfl _, fun K hK => ?_⟩
    have HK := Lib.hid hK
    clear hd hFm hK
    go_simp
    exact HK.out _ _ rfl (Below.refl _ _)
  simp only [List.nil_append, List.cons_append]
  apply step_fix
  · intro a W Zs hS hFm hz hd
    have h2 := hFm.old 2 rfl
    conv at h2 => rhs; whnf
    replace h2 := ev_get hFm.size h2
    refine .inl ⟨wanted_none rfl _, fun K hK => ?_⟩
    have HK := Lib.hid hK
    clear hd hFm hK
    go_simp
    exact HK.out _ _ rfl (Below.refl _ _)
  simp only [List.nil_append, List.cons_append]
  refine step_of (frF _ ((makeF d f ns))) (frF_good _ _) ?_ ?_
  · intro a W Zs hS hFm hz hd
    have h34 := ev_get hFm.size (hd 1 34 rfl rfl)
    have h35 := ev_get hFm.size (hd 2 35 rfl rfl)
    have h36 := ev_get hFm.size (hd 3 36 rfl rfl)
    refine .inl ⟨wanted_none rfl _, fun K hK => ?_⟩
    have HK := Lib.hid hK
    clear hd hFm hK
    go_simp
    refine (make5_any d da dc f fa fc na ns nc _ hok (hns.drew1.later hS) iK iR iS iV).mono ?_
    rintro e W' ⟨ra, rc, rfl, hr, hfr, hb⟩
    exact HK.out _ _ ⟨ra, rc, rfl, hr, hr.foot hfr⟩ hb
  simp only [List.nil_append, List.cons_append]
  apply step_fix
  · intro a W Zs hS hFm hz hd
    have h33 := ev_get hFm.size (hd 0 33 rfl rfl)
    obtain ⟨a37, c37, e37, r37, f37⟩ := hd 4 37 rfl rfl
    have h37 := ev_get hFm.size e37
    refine .inl ⟨wanted_none rfl _, fun K hK => ?_⟩
    have HK := Lib.hid hK
    clear hd hFm hK
    go_simp
    refine (rText_ok d da dc (makeF d f ns) a37 c37 _ hok hokg r37).mono ?_
    rintro e W' ⟨rfl, hb⟩
    exact HK.out _ _ rfl hb
  simp only [List.nil_append, List.cons_append]
  apply step_fix
  · intro a W Zs hS hFm hz hd
    have h38 := ev_get hFm.size (hd 5 38 rfl rfl)
    refine .inl ⟨wanted_none rfl _, fun K hK => ?_⟩
    have HK := Lib.hid hK
    clear hd hFm hK
    go_simp
    exact HK.out _ _ rfl (Below.refl _ _)
  simp only [List.nil_append, List.cons_append]
  intro a w2 Zs hS hFm hz hd
  have e16 := hd 6 16 rfl
  have e0 := hFm.old 0 rfl
  conv at e0 => rhs; whnf
  have e1 := hFm.old 1 rfl
  conv at e1 => rhs; whnf
  have e2 := hFm.old 2 rfl
  conv at e2 => rhs; whnf
  have e3 := hFm.old 3 rfl
  conv at e3 => rhs; whnf
  have e4 := hFm.old 4 rfl
  conv at e4 => rhs; whnf
  have e5 := hFm.old 5 rfl
  conv at e5 => rhs; whnf
  have e6 := hFm.old 6 rfl
  conv at e6 => rhs; whnf
  have e7 := hFm.old 7 rfl
  conv at e7 => rhs; whnf
  have e8 := hFm.old 8 rfl
  conv at e8 => rhs; whnf
  have e9 := hFm.old 9 rfl
  conv at e9 => rhs; whnf
  have e10 := hFm.old 10 rfl
  conv at e10 => rhs; whnf
  have e11 := hFm.old 11 rfl
  conv at e11 => rhs; whnf
  have e12 := hFm.old 12 rfl
  conv at e12 => rhs; whnf
  have e13 := hFm.old 13 rfl
  conv at e13 => rhs; whnf
  have e14 := hFm.old 14 rfl
  conv at e14 => rhs; whnf
  have e15 := hFm.old 15 rfl
  conv at e15 => rhs; whnf
  have e17 := hFm.old 17 rfl
  conv at e17 => rhs; whnf
  have e18 := hFm.old 18 rfl
  conv at e18 => rhs; whnf
  have e19 := hFm.old 19 rfl
  conv at e19 => rhs; whnf
  have e20 := hFm.old 20 rfl
  conv at e20 => rhs; whnf
  have e21 := hFm.old 21 rfl
  conv at e21 => rhs; whnf
  have e22 := hFm.old 22 rfl
  conv at e22 => rhs; whnf
  have e23 := hFm.old 23 rfl
  conv at e23 => rhs; whnf
  have e24 := hFm.old 24 rfl
  conv at e24 => rhs; whnf
  have e25 := hFm.old 25 rfl
  conv at e25 => rhs; whnf
  have e26 := hFm.old 26 rfl
  conv at e26 => rhs; whnf
  have e27 := hFm.old 27 rfl
  conv at e27 => rhs; whnf
  have e28 := hFm.old 28 rfl
  conv at e28 => rhs; whnf
  have e29 := hFm.old 29 rfl
  conv at e29 => rhs; whnf
  have e30 := hFm.old 30 rfl
  conv at e30 => rhs; whnf
  have e31 := hFm.old 31 rfl
  conv at e31 => rhs; whnf
  have e32 := hFm.old 32 rfl
  conv at e32 => rhs; whnf
  have e39 := hFm.old 39 rfl
  conv at e39 => rhs; whnf
  have e40 := hFm.old 40 rfl
  conv at e40 => rhs; whnf
  have e41 := hFm.old 41 rfl
  conv at e41 => rhs; whnf
  have e42 := hFm.old 42 rfl
  conv at e42 => rhs; whnf
  have e43 := hFm.old 43 rfl
  conv at e43 => rhs; whnf
  have e44 := hFm.old 44 rfl
  conv at e44 => rhs; whnf
  have e45 := hFm.old 45 rfl
  conv at e45 => rhs; whnf
  have e46 := hFm.old 46 rfl
  conv at e46 => rhs; whnf
  have e47 := hFm.old 47 rfl
  conv at e47 => rhs; whnf
  have e48 := hFm.old 48 rfl
  conv at e48 => rhs; whnf
  have e49 := hFm.old 49 rfl
  conv at e49 => rhs; whnf
  have e50 := hFm.old 50 rfl
  conv at e50 => rhs; whnf
  have e51 := hFm.old 51 rfl
  conv at e51 => rhs; whnf
  have e52 := hFm.old 52 rfl
  conv at e52 => rhs; whnf
  have e53 := hFm.old 53 rfl
  conv at e53 => rhs; whnf
  have e54 := hFm.old 54 rfl
  conv at e54 => rhs; whnf
  have e55 := hFm.old 55 rfl
  conv at e55 => rhs; whnf
  have e56 := hFm.old 56 rfl
  conv at e56 => rhs; whnf
  have e57 := hFm.old 57 rfl
  conv at e57 => rhs; whnf
  have e58 := hFm.old 58 rfl
  conv at e58 => rhs; whnf
  have e59 := hFm.old 59 rfl
  conv at e59 => rhs; whnf
  have e60 := hFm.old 60 rfl
  conv at e60 => rhs; whnf
  have e61 := hFm.old 61 rfl
  conv at e61 => rhs; whnf
  have e62 := hFm.old 62 rfl
  conv at e62 => rhs; whnf
  have e63 := hFm.old 63 rfl
  conv at e63 => rhs; whnf
  have e64 := hFm.old 64 rfl
  conv at e64 => rhs; whnf
  have e65 := hFm.old 65 rfl
  conv at e65 => rhs; whnf
  have e66 := hFm.old 66 rfl
  conv at e66 => rhs; whnf
  have e67 := hFm.old 67 rfl
  conv at e67 => rhs; whnf
  have e68 := hFm.old 68 rfl
  conv at e68 => rhs; whnf
  have e69 := hFm.old 69 rfl
  conv at e69 => rhs; whnf
  have e70 := hFm.old 70 rfl
  conv at e70 => rhs; whnf
  have e71 := hFm.old 71 rfl
  conv at e71 => rhs; whnf
  have e72 := hFm.old 72 rfl
  conv at e72 => rhs; whnf
  have e73 := hFm.old 73 rfl
  conv at e73 => rhs; whnf
  have e74 := hFm.old 74 rfl
  conv at e74 => rhs; whnf
  have e75 := hFm.old 75 rfl
  conv at e75 => rhs; whnf
  have e76 := hFm.old 76 rfl
  conv at e76 => rhs; whnf
  have e77 := hFm.old 77 rfl
  conv at e77 => rhs; whnf
  have e78 := hFm.old 78 rfl
  conv at e78 => rhs; whnf
  have e79 := hFm.old 79 rfl
  conv at e79 => rhs; whnf
  have e80 := hFm.old 80 rfl
  conv at e80 => rhs; whnf
  have e81 := hFm.old 81 rfl
  conv at e81 => rhs; whnf
  have e82 := hFm.old 82 rfl
  conv at e82 => rhs; whnf
  have e83 := hFm.old 83 rfl
  conv at e83 => rhs; whnf
  have e84 := hFm.old 84 rfl
  conv at e84 => rhs; whnf
  have e85 := hFm.old 85 rfl
  conv at e85 => rhs; whnf
  have e86 := hFm.old 86 rfl
  conv at e86 => rhs; whnf
  have e87 := hFm.old 87 rfl
  conv at e87 => rhs; whnf
  have e88 := hFm.old 88 rfl
  conv at e88 => rhs; whnf
  have e89 := hFm.old 89 rfl
  conv at e89 => rhs; whnf
  have e90 := hFm.old 90 rfl
  conv at e90 => rhs; whnf
  have e91 := hFm.old 91 rfl
  conv at e91 => rhs; whnf
  have e92 := hFm.old 92 rfl
  conv at e92 => rhs; whnf
  have e93 := hFm.old 93 rfl
  conv at e93 => rhs; whnf
  have e94 := hFm.old 94 rfl
  conv at e94 => rhs; whnf
  have e95 := hFm.old 95 rfl
  conv at e95 => rhs; whnf
  have e96 := hFm.old 96 rfl
  conv at e96 => rhs; whnf
  have e97 := hFm.old 97 rfl
  conv at e97 => rhs; whnf
  have e98 := hFm.old 98 rfl
  conv at e98 => rhs; whnf
  have e99 := hFm.old 99 rfl
  conv at e99 => rhs; whnf
  have e100 := hFm.old 100 rfl
  conv at e100 => rhs; whnf
  have e101 := hFm.old 101 rfl
  conv at e101 => rhs; whnf
  have e102 := hFm.old 102 rfl
  conv at e102 => rhs; whnf
  have e103 := hFm.old 103 rfl
  conv at e103 => rhs; whnf
  have e104 := hFm.old 104 rfl
  conv at e104 => rhs; whnf
  have e105 := hFm.old 105 rfl
  conv at e105 => rhs; whnf
  have e106 := hFm.old 106 rfl
  conv at e106 => rhs; whnf
  have e107 := hFm.old 107 rfl
  conv at e107 => rhs; whnf
  have e108 := hFm.old 108 rfl
  conv at e108 => rhs; whnf
  have e109 := hFm.old 109 rfl
  conv at e109 => rhs; whnf
  have e110 := hFm.old 110 rfl
  conv at e110 => rhs; whnf
  have e111 := hFm.old 111 rfl
  conv at e111 => rhs; whnf
  have e112 := hFm.old 112 rfl
  conv at e112 => rhs; whnf
  have e113 := hFm.old 113 rfl
  conv at e113 => rhs; whnf
  have e114 := hFm.old 114 rfl
  conv at e114 => rhs; whnf
  have e115 := hFm.old 115 rfl
  conv at e115 => rhs; whnf
  have e116 := hFm.old 116 rfl
  conv at e116 => rhs; whnf
  have e117 := hFm.old 117 rfl
  conv at e117 => rhs; whnf
  have e118 := hFm.old 118 rfl
  conv at e118 => rhs; whnf
  have e119 := hFm.old 119 rfl
  conv at e119 => rhs; whnf
  have e120 := hFm.old 120 rfl
  conv at e120 => rhs; whnf
  have e121 := hFm.old 121 rfl
  conv at e121 => rhs; whnf
  have e122 := hFm.old 122 rfl
  conv at e122 => rhs; whnf
  have e123 := hFm.old 123 rfl
  conv at e123 => rhs; whnf
  have e124 := hFm.old 124 rfl
  conv at e124 => rhs; whnf
  have e125 := hFm.old 125 rfl
  conv at e125 => rhs; whnf
  have e126 := hFm.old 126 rfl
  conv at e126 => rhs; whnf
  have e127 := hFm.old 127 rfl
  conv at e127 => rhs; whnf
  have e128 := hFm.old 128 rfl
  conv at e128 => rhs; whnf
  have e129 := hFm.old 129 rfl
  conv at e129 => rhs; whnf
  have e130 := hFm.old 130 rfl
  conv at e130 => rhs; whnf
  have e131 := hFm.old 131 rfl
  conv at e131 => rhs; whnf
  have e132 := hFm.old 132 rfl
  conv at e132 => rhs; whnf
  have e133 := hFm.old 133 rfl
  conv at e133 => rhs; whnf
  have hsz := hFm.size
  have hdf := hFm.defers
  clear hd hFm
  obtain ⟨t, df⟩ := a
  simp only at hsz hdf
  subst hdf
  obtain ⟨x, hx⟩ : ∃ x : Nat → Value, ∀ i, t.getD i undef = x i := ⟨fun i => t.getD i undef, fun _ => rfl⟩
  have h16 := (hx 16).symm.trans e16
  have h0 := (hx 0).symm.trans e0
  have h1 := (hx 1).symm.trans e1
  have h2 := (hx 2).symm.trans e2
  have h3 := (hx 3).symm.trans e3
  have h4 := (hx 4).symm.trans e4
  have h5 := (hx 5).symm.trans e5
  have h6 := (hx 6).symm.trans e6
  have h7 := (hx 7).symm.trans e7
  have h8 := (hx 8).symm.trans e8
  have h9 := (hx 9).symm.trans e9
  have h10 := (hx 10).symm.trans e10
  have h11 := (hx 11).symm.trans e11
  have h12 := (hx 12).symm.trans e12
  have h13 := (hx 13).symm.trans e13
  have h14 := (hx 14).symm.trans e14
  have h15 := (hx 15).symm.trans e15
  have h17 := (hx 17).symm.trans e17
  have h18 := (hx 18).symm.trans e18
  have h19 := (hx 19).symm.trans e19
  have h20 := (hx 20).symm.trans e20
  have h21 := (hx 21).symm.trans e21
  have h22 := (hx 22).symm.trans e22
  have h23 := (hx 23).symm.trans e23
  have h24 := (hx 24).symm.trans e24
  have h25 := (hx 25).symm.trans e25
  have h26 := (hx 26).symm.trans e26
  have h27 := (hx 27).symm.trans e27
  have h28 := (hx 28).symm.trans e28
  have h29 := (hx 29).symm.trans e29
  have h30 := (hx 30).symm.trans e30
  have h31 := (hx 31).symm.trans e31
  have h32 := (hx 32).symm.trans e32
  have h39 := (hx 39).symm.trans e39
  have h40 := (hx 40).symm.trans e40
  have h41 := (hx 41).symm.trans e41
  have h42 := (hx 42).symm.trans e42
  have h43 := (hx 43).symm.trans e43
  have h44 := (hx 44).symm.trans e44
  have h45 := (hx 45).symm.trans e45
  have h46 := (hx 46).symm.trans e46
  have h47 := (hx 47).symm.trans e47
  have h48 := (hx 48).symm.trans e48
  have h49 := (hx 49).symm.trans e49
  have h50 := (hx 50).symm.trans e50
  have h51 := (hx 51).symm.trans e51
  have h52 := (hx 52).symm.trans e52
  have h53 := (hx 53).symm.trans e53
  have h54 := (hx 54).symm.trans e54
  have h55 := (hx 55).symm.trans e55
  have h56 := (hx 56).symm.trans e56
  have h57 := (hx 57).symm.trans e57
  have h58 := (hx 58).symm.trans e58
  have h59 := (hx 59).symm.trans e59
  have h60 := (hx 60).symm.trans e60
  have h61 := (hx 61).symm.trans e61
  have h62 := (hx 62).symm.trans e62
  have h63 := (hx 63).symm.trans e63
  have h64 := (hx 64).symm.trans e64
  have h65 := (hx 65).symm.trans e65
  have h66 := (hx 66).symm.trans e66
  have h67 := (hx 67).symm.trans e67
  have h68 := (hx 68).symm.trans e68
  have h69 := (hx 69).symm.trans e69
  have h70 := (hx 70).symm.trans e70
  have h71 := (hx 71).symm.trans e71
  have h72 := (hx 72).symm.trans e72
  have h73 := (hx 73).symm.trans e73
  have h74 := (hx 74).symm.trans e74
  have h75 := (hx 75).symm.trans e75
  have h76 := (hx 76).symm.trans e76
  have h77 := (hx 77).symm.trans e77
  have h78 := (hx 78).symm.trans e78
  have h79 := (hx 79).symm.trans e79
  have h80 := (hx 80).symm.trans e80
  have h81 := (hx 81).symm.trans e81
  have h82 := (hx 82).symm.trans e82
  have h83 := (hx 83).symm.trans e83
  have h84 := (hx 84).symm.trans e84
  have h85 := (hx 85).symm.trans e85
  have h86 := (hx 86).symm.trans e86
  have h87 := (hx 87).symm.trans e87
  have h88 := (hx 88).symm.trans e88
  have h89 := (hx 89).symm.trans e89
  have h90 := (hx 90).symm.trans e90
  have h91 := (hx 91).symm.trans e91
  have h92 := (hx 92).symm.trans e92
  have h93 := (hx 93).symm.trans e93
  have h94 := (hx 94).symm.trans e94
  have h95 := (hx 95).symm.trans e95
  have h96 := (hx 96).symm.trans e96
  have h97 := (hx 97).symm.trans e97
  have h98 := (hx 98).symm.trans e98
  have h99 := (hx 99).symm.trans e99
  have h100 := (hx 100).symm.trans e100
  have h101 := (hx 101).symm.trans e101
  have h102 := (hx 102).symm.trans e102
  have h103 := (hx 103).symm.trans e103
  have h104 := (hx 104).symm.trans e104
  have h105 := (hx 105).symm.trans e105
  have h106 := (hx 106).symm.trans e106
  have h107 := (hx 107).symm.trans e107
  have h108 := (hx 108).symm.trans e108
  have h109 := (hx 109).symm.trans e109
  have h110 := (hx 110).symm.trans e110
  have h111 := (hx 111).symm.trans e111
  have h112 := (hx 112).symm.trans e112
  have h113 := (hx 113).symm.trans e113
  have h114 := (hx 114).symm.trans e114
  have h115 := (hx 115).symm.trans e115
  have h116 := (hx 116).symm.trans e116
  have h117 := (hx 117).symm.trans e117
  have h118 := (hx 118).symm.trans e118
  have h119 := (hx 119).symm.trans e119
  have h120 := (hx 120).symm.trans e120
  have h121 := (hx 121).symm.trans e121
  have h122 := (hx 122).symm.trans e122
  have h123 := (hx 123).symm.trans e123
  have h124 := (hx 124).symm.trans e124
  have h125 := (hx 125).symm.trans e125
  have h126 := (hx 126).symm.trans e126
  have h127 := (hx 127).symm.trans e127
  have h128 := (hx 128).symm.trans e128
  have h129 := (hx 129).symm.trans e129
  have h130 := (hx 130).symm.trans e130
  have h131 := (hx 131).symm.trans e131
  have h132 := (hx 132).symm.trans e132
  have h133 := (hx 133).symm.trans e133
  have ht' : t = #[x 0, x 1, x 2, x 3, x 4, x 5, x 6, x 7, x 8, x 9, x 10, x 11, x 12, x 13, x 14, x 15, x 16, x 17, x 18, x 19, x 20, x 21, x 22, x 23, x 24, x 25, x 26, x 27, x 28, x 29, x 30, x 31, x 32, x 33, x 34, x 35, x 36, x 37, x 38, x 39, x 40, x 41, x 42, x 43, x 44, x 45, x 46, x 47, x 48, x 49, x 50, x 51, x 52, x 53, x 54, x 55, x 56, x 57, x 58, x 59, x 60, x 61, x 62, x 63, x 64, x 65, x 66, x 67, x 68, x 69, x 70, x 71, x 72, x 73, x 74, x 75, x 76, x 77, x 78, x 79, x 80, x 81, x 82, x 83, x 84, x 85, x 86, x 87, x 88, x 89, x 90, x 91, x 92, x 93, x 94, x 95, x 96, x 97, x 98, x 99, x 100, x 101, x 102, x 103, x 104, x 105, x 106, x 107, x 108, x 109, x 110, x 111, x 112, x 113, x 114, x 115, x 116, x 117, x 118, x 119, x 120, x 121, x 122, x 123, x 124, x 125, x 126, x 127, x 128, x 129, x 130, x 131, x 132, x 133] := frame_lit t 134 hsz x hx
  clear hx hsz hz e16 e0 e1 e2 e3 e4 e5 e6 e7 e8 e9 e10 e11 e12 e13 e14 e15 e17 e18 e19 e20 e21 e22 e23 e24 e25 e26 e27 e28 e29 e30 e31 e32 e39 e40 e41 e42 e43 e44 e45 e46 e47 e48 e49 e50 e51 e52 e53 e54 e55 e56 e57 e58 e59 e60 e61 e62 e63 e64 e65 e66 e67 e68 e69 e70 e71 e72 e73 e74 e75 e76 e77 e78 e79 e80 e81 e82 e83 e84 e85 e86 e87 e88 e89 e90 e91 e92 e93 e94 e95 e96 e97 e98 e99 e100 e101 e102 e103 e104 e105 e106 e107 e108 e109 e110 e111 e112 e113 e114 e115 e116 e117 e118 e119 e120 e121 e122 e123 e124 e125 e126 e127 e128 e129 e130 e131 e132 e133
  subst ht'
  dsimp only
  rw [h16, h0, h1, h2, h3, h4, h5, h6, h7, h8, h9, h10, h11, h12, h13, h14, h15, h17, h18, h19, h20, h21, h22, h23, h24, h25, h26, h27, h28, h29, h30, h31, h32, h39, h40, h41, h42, h43, h44, h45, h46, h47, h48, h49, h50, h51, h52, h53, h54, h55, h56, h57, h58, h59, h60, h61, h62, h63, h64, h65, h66, h67, h68, h69, h70, h71, h72, h73, h74, h75, h76, h77, h78, h79, h80, h81, h82, h83, h84, h85, h86, h87, h88, h89, h90, h91, h92, h93, h94, h95, h96, h97, h98, h99, h100, h101, h102, h103, h104, h105, h106, h107, h108, h109, h110, h111, h112, h113, h114, h115, h116, h117, h118, h119, h120, h121, h122, h123, h124, h125, h126, h127, h128, h129, h130, h131, h132, h133]
  clear h16 h0 h1 h2 h3 h4 h5 h6 h7 h8 h9 h10 h11 h12 h13 h14 h15 h17 h18 h19 h20 h21 h22 h23 h24 h25 h26 h27 h28 h29 h30 h31 h32 h39 h40 h41 h42 h43 h44 h45 h46 h47 h48 h49 h50 h51 h52 h53 h54 h55 h56 h57 h58 h59 h60 h61 h62 h63 h64 h65 h66 h67 h68 h69 h70 h71 h72 h73 h74 h75 h76 h77 h78 h79 h80 h81 h82 h83 h84 h85 h86 h87 h88 h89 h90 h91 h92 h93 h94 h95 h96 h97 h98 h99 h100 h101 h102 h103 h104 h105 h106 h107 h108 h109 h110 h111 h112 h113 h114 h115 h116 h117 h118 h119 h120 h121 h122 h123 h124 h125 h126 h127 h128 h129 h130 h131 h132 h133
  have hb2 := from_drew hS
  replace hB := hB.trans (hb2.mono hB.size)
  replace hD := hD.later hb2
  replace hrd := hrd.later hb2
  replace hms := hms.later hb2
  clear hS hb2 k_f hns
  have hl := textF_length (makeF d f ns)
  have h15 := (ok_small hok hokg).2.2.2.2.2
  clear hokg
  generalize textF (makeF d f ns) = s at *
  have s1 : 51 ≤ s.length := by omega
  have s2 : s.length ≤ 201 := by omega
  clear hl h15
  have z1 : IntKind.i64.wrap ((s.length : Int) + 1) = (s.length : Int) + 1 := wrap_in _ (by omega) (by omega)
  have z2 : IntKind.i64.wrap ((s.length : Int) - 17) = ((s.length - 17 : Nat) : Int) := by rw [wrap_in _ (by omega) (by omega)]; omega
  have z3 : s.length - 17 ≤ s.length := by omega
  have k0 : 0 ≤ cut % ((s.length : Int) + 1) := Int.emod_nonneg _ (by omega)
  have k1 : cut % ((s.length : Int) + 1) < (s.length : Int) + 1 := Int.emod_lt_of_pos _ (by omega)
  obtain ⟨k, hk⟩ : ∃ k : Nat, cut % ((s.length : Int) + 1) = (k : Int) := ⟨(cut % ((s.length : Int) + 1)).toNat, by omega⟩
  have HW1 := Lib.hid (fun W => within5_any cut ((s.length : Int) + 1) W (by omega) (by omega))
  rw [hk] at HW1 k0 k1
  clear hk
  go_wp2_with fail
  refine (HW1.out _).mono ?_
  rintro e wl ⟨rfl, rfl⟩
  go_upto_region 9 with fail
  have hb1 : (s.take (s.length - 17)).length = s.length - 17 := by simp
  have b1 : 34 ≤ (s.take (s.length - 17)).length := by omega
  have b2 : (s.take (s.length - 17)).length ≤ 184 := by omega
  clear hb1 z1 z2 z3 HW1
  generalize s.take (s.length - 17) = b at *
  have HW2 := Lib.hid (fun W => within5_any at_ (b.length : Int) W (by omega) (by omega))
  have HT := Lib.hid (fun W => rturn_any b (at_ % (b.length : Int)) W (by omega))
  have ht := turn_length b (at_ % (b.length : Int))
  have t1 : 34 ≤ (turn b (at_ % (b.length : Int))).length := by omega
  have t2 : (turn b (at_ % (b.length : Int))).length ≤ 184 := by omega
  clear ht
  go_wp2_with fail
  refine (HW2.out _).mono ?_
  rintro e wl ⟨rfl, rfl⟩
  go_wp2_with fail
  refine (HT.out _).mono ?_
  rintro e w3 ⟨rfl, hb2⟩
  generalize turn b (at_ % (b.length : Int)) = t at *
  replace hB := hB.trans (hb2.mono hB.size)
  replace hD := hD.later hb2
  replace hrd := hrd.later hb2
  replace hms := hms.later hb2
  clear hb2 HT HW2
  have hM := textL_length ms
  have HX := Lib.hid (fun W (h : Row W ma ms) => text_any ma ms mc W h)
  generalize textL ms = M at *
  have HW3 := Lib.hid (fun W => within5_any at_ (s.length : Int) W (by omega) (by omega))
  have HT3 := Lib.hid (fun W => rturn_any s (at_ % (s.length : Int)) W (by omega))
  have L0 := turn_length s (at_ % (s.length : Int))
  have g0 : (turn s (at_ % (s.length : Int))).length ≤ 1000 := by omega
  clear L0
  generalize at_ % (s.length : Int) = v3 at *
  generalize turn s v3 = l0 at *
  have kN : k ≤ s.length := by omega
  have g1 : (s.take k).length ≤ 1000 := take_len _ _ _ (by omega)
  have gd : ((s.drop k).take (s.length - k)).length ≤ 1000 := take_len _ _ _ (by rw [List.length_drop]; omega)
  have ad1 := add_run (s.take k) M g1 (by omega)
  have g1' : (s.take k ++ M).length ≤ 1000 := by have := List.length_take_le k s; rw [List.length_append]; omega
  have ad2 := add_run (s.take k ++ M) ((s.drop k).take (s.length - k)) g1' gd
  have g2 : (s.take k ++ M ++ (s.drop k).take (s.length - k)).length ≤ 1000 := by
    have := List.length_take_le k s
    have := List.length_take_le (s.length - k) (s.drop k)
    rw [List.length_append, List.length_append]
    omega
  have g3 : raw.length ≤ 1000 := by omega
  have HR4 := Lib.hid (fun W => rwrap_any t W (by omega))
  have g4 : (wrapL t).length ≤ 1000 := by have := wrapL_le t _ t2; omega
  generalize wrapL t = l4 at *
  have HW5 := Lib.hid (fun W => within5_any cut (t.length : Int) W (by omega) (by omega))
  have HT5 := Lib.hid (fun W => rturn_any t (cut % (t.length : Int)) W (by omega))
  have L5 := turn_length t (cut % (t.length : Int))
  have g5' : (turn t (cut % (t.length : Int))).length ≤ 184 := by omega
  clear L5
  generalize cut % (t.length : Int) = v5 at *
  generalize turn t v5 = t5 at *
  have HR5 := Lib.hid (fun W => rwrap_any t5 W (by omega))
  have g5 : (wrapL t5).length ≤ 1000 := by have := wrapL_le t5 _ g5'; omega
  generalize wrapL t5 = l5 at *
  have y0 : 0 ≤ cut % ((b.length : Int) + 1) := Int.emod_nonneg _ (by omega)
  have y1 : cut % ((b.length : Int) + 1) < (b.length : Int) + 1 := Int.emod_lt_of_pos _ (by omega)
  have HW6 := Lib.hid (fun W => within5_any cut ((b.length : Int) + 1) W (by omega) (by omega))
  obtain ⟨y, hy⟩ : ∃ y : Nat, cut % ((b.length : Int) + 1) = (y : Int) := ⟨(cut % ((b.length : Int) + 1)).toNat, by omega⟩
  rw [hy] at HW6 y0 y1
  clear hy
  have z6 : IntKind.i64.wrap ((b.length : Int) + 1) = (b.length : Int) + 1 := wrap_in _ (by omega) (by omega)
  have yN : y ≤ b.length := by omega
  have g6' : (b.take y).length ≤ 184 := take_len _ _ _ b2
  have HR6 := Lib.hid (fun W => rwrap_any (b.take y) W (by omega))
  have g6 : (wrapL (b.take y)).length ≤ 1000 := by have := wrapL_le _ _ g6'; omega
  generalize wrapL (b.take y) = l6 at *
  have HW7 := Lib.hid (fun W => within5_any at_ 20 W (by omega) (by omega))
  have v0 : 0 ≤ at_ % 20 := by omega
  have v1 : at_ % 20 < 20 := by omega
  generalize at_ % 20 = v7 at *
  have z7 : IntKind.i64.wrap (1 + v7) = 1 + v7 := wrap_in _ (by omega) (by omega)
  have HB7 := Lib.hid (fun W => rbits_any cut (1 + v7) W)
  have L7 := bitsI_len cut (1 + v7)
  generalize bitsI cut (1 + v7) = m7 at *
  have ad7 := add_run b m7 (by omega) (by omega)
  have g7' : (b ++ m7).length ≤ 300 := by rw [List.length_append]; omega
  have HR7 := Lib.hid (fun W => rwrap_any (b ++ m7) W (by omega))
  have g7 : (wrapL (b ++ m7)).length ≤ 1000 := by have := wrapL_le _ _ g7'; omega
  generalize wrapL (b ++ m7) = l7 at *
  go_upto_region 10 with fail
  (try dsimp only [List.append])
  refine region_slots [some 55, some 56, some 57, some 58, some 59, some 60, some 61, some 62, some 63, some 64, some 65, some 66, some 67, some 68, some 69, some 70, some 71, some 72, some 73, some 74, some 75, some 76, some 77, some 78, some 79, some 80, some 81, some 82, some 83, some 84, some 85, some 86, some 87, some 88, some 89, some 90, some 91, some 92, some 93, some 94, some 95, some 96, some 97, some 98, some 99, some 100, some 20] [none, none, none, none, none, none, none, none, none, none, none, none, none, none, none, none, none, none, none, none, none, none, none, none, none, none, none, none, none, none, none, none, none, none, none, none, none, none, none, none, none, none, none, none, none, none, none] 134 (by kernel_rfl) (by kernel_rfl) rfl rfl ?_
  apply step_fix
  · intro a W Zs hS hFm hz hd
    have h16 := hFm.old 16 rfl
    conv at h16 => rhs; whnf
    replace h16 := ev_get hFm.size h16
    refine .inl ⟨wanted_none rfl _, fun K hK => ?_⟩
    have HK := Lib.hid hK
    clear hd hFm hK
    go_simp
    exact HK.out _ _ rfl (Below.refl _ _)
  simp only [List.nil_append, List.cons_append]
  apply step_fix
  · intro a W Zs hS hFm hz hd
    have h3 := hFm.old 3 rfl
    conv at h3 => rhs; whnf
    replace h3 := ev_get hFm.size h3
    refine .inl ⟨wanted_none rfl _, fun K hK => ?_⟩
    have HK := Lib.hid hK
    clear hd hFm hK
    go_simp
    exact HK.out _ _ rfl (Below.refl _ _)
  simp only [List.nil_append, List.cons_append]
  apply step_fix
  · intro a W Zs hS hFm hz hd
    have h16 := hFm.old 16 rfl
    conv at h16 => rhs; whnf
    replace h16 := ev_get hFm.size h16
    refine .inl ⟨wanted_none rfl _, fun K hK => ?_⟩
    have HK := Lib.hid hK
    clear hd hFm hK
    go_simp
    exact HK.out _ _ rfl (Below.refl _ _)
  simp only [List.nil_append, List.cons_append]
  apply step_fix
  · intro a W Zs hS hFm hz hd
    have h57 := ev_get hFm.size (hd 2 57 rfl rfl)
    refine .inl ⟨wanted_none rfl _, fun K hK => ?_⟩
    have HK := Lib.hid hK
    clear hd hFm hK
    go_simp
    exact HK.out _ _ rfl (Below.refl _ _)
  simp only [List.nil_append, List.cons_append]
  apply step_fix
  · intro a W Zs hS hFm hz hd
    have h56 := ev_get hFm.size (hd 1 56 rfl rfl)
    have h58 := ev_get hFm.size (hd 3 58 rfl rfl)
    refine .inl ⟨wanted_none rfl _, fun K hK => ?_⟩
    have HK := Lib.hid hK
    clear hd hFm hK
    go_simp
    refine (HW3.out _).mono ?_
    rintro e W' ⟨rfl, rfl⟩
    exact HK.out _ _ rfl (Below.refl _ _)
  simp only [List.nil_append, List.cons_append]
  apply step_fix
  · intro a W Zs hS hFm hz hd
    have h55 := ev_get hFm.size (hd 0 55 rfl rfl)
    have h59 := ev_get hFm.size (hd 4 59 rfl rfl)
    refine .inl ⟨wanted_none rfl _, fun K hK => ?_⟩
    have HK := Lib.hid hK
    clear hd hFm hK
    go_simp
    refine (HT3.out _).mono ?_
    rintro e W' ⟨rfl, hb⟩
    exact HK.out _ _ rfl hb
  simp only [List.nil_append, List.cons_append]
  apply step_fix
  · intro a W Zs hS hFm hz hd
    have h16 := hFm.old 16 rfl
    conv at h16 => rhs; whnf
    replace h16 := ev_get hFm.size h16
    refine .inl ⟨wanted_none rfl _, fun K hK => ?_⟩
    have HK := Lib.hid hK
    clear hd hFm hK
    go_simp
    exact HK.out _ _ rfl (Below.refl _ _)
  simp only [List.nil_append, List.cons_append]
  apply step_fix
  · intro a W Zs hS hFm hz hd
    have h17 := hFm.old 17 rfl
    conv at h17 => rhs; whnf
    replace h17 := ev_get hFm.size h17
    refine .inl ⟨wanted_none rfl _, fun K hK => ?_⟩
    have HK := Lib.hid hK
    clear hd hFm hK
    go_simp
    exact HK.out _ _ rfl (Below.refl _ _)
  simp only [List.nil_append, List.cons_append]
  apply step_fix
  · intro a W Zs hS hFm hz hd
    have h61 := ev_get hFm.size (hd 6 61 rfl rfl)
    have h62 := ev_get hFm.size (hd 7 62 rfl rfl)
    refine .inl ⟨wanted_none rfl _, fun K hK => ?_⟩
    have HK := Lib.hid hK
    clear hd hFm hK
    go_simp
    exact HK.out _ _ rfl (Below.refl _ _)
  simp only [List.nil_append, List.cons_append]
  apply step_fix
  · intro a W Zs hS hFm hz hd
    have h16 := hFm.old 16 rfl
    conv at h16 => rhs; whnf
    replace h16 := ev_get hFm.size h16
    refine .inl ⟨wanted_none rfl _, fun K hK => ?_⟩
    have HK := Lib.hid hK
    clear hd hFm hK
    go_simp
    exact HK.out _ _ rfl (Below.refl _ _)
  simp only [List.nil_append, List.cons_append]
  apply step_fix
  · intro a W Zs hS hFm hz hd
    have h17 := hFm.old 17 rfl
    conv at h17 => rhs; whnf
    replace h17 := ev_get hFm.size h17
    refine .inl ⟨wanted_none rfl _, fun K hK => ?_⟩
    have HK := Lib.hid hK
    clear hd hFm hK
    go_simp
    exact HK.out _ _ rfl (Below.refl _ _)
  simp only [List.nil_append, List.cons_append]
  apply step_fix
  · intro a W Zs hS hFm hz hd
    have h64 := ev_get hFm.size (hd 9 64 rfl rfl)
    have h65 := ev_get hFm.size (hd 10 65 rfl rfl)
    refine .inl ⟨wanted_none rfl _, fun K hK => ?_⟩
    have HK := Lib.hid hK
    clear hd hFm hK
    go_simp
    exact HK.out _ _ rfl (Below.refl _ _)
  simp only [List.nil_append, List.cons_append]
  apply step_fix
  · intro a W Zs hS hFm hz hd
    have h5 := hFm.old 5 rfl
    conv at h5 => rhs; whnf
    replace h5 := ev_get hFm.size h5
    refine .inl ⟨wanted_none rfl _, fun K hK => ?_⟩
    have HK := Lib.hid hK
    clear hd hFm hK
    go_simp
    exact HK.out _ _ rfl (Below.refl _ _)
  simp only [List.nil_append, List.cons_append]
  apply step_fix
  · intro a W Zs hS hFm hz hd
    have h67 := ev_get hFm.size (hd 12 67 rfl rfl)
    refine .inl ⟨wanted_none rfl _, fun K hK => ?_⟩
    have HK := Lib.hid hK
    clear hd hFm hK
    go_simp
    refine (HX.out _ (hms.drew1.later hS)).mono ?_
    rintro e W' ⟨rfl, hb⟩
    exact HK.out _ _ rfl hb
  simp only [List.nil_append, List.cons_append]
  apply step_fix
  · intro a W Zs hS hFm hz hd
    have h66 := ev_get hFm.size (hd 11 66 rfl rfl)
    have h68 := ev_get hFm.size (hd 13 68 rfl rfl)
    refine .inl ⟨wanted_none rfl _, fun K hK => ?_⟩
    have HK := Lib.hid hK
    clear hd hFm hK
    go_simp
    exact HK.out _ _ rfl (Below.refl _ _)
  simp only [List.nil_append, List.cons_append]
  apply step_fix
  · intro a W Zs hS hFm hz hd
    have h16 := hFm.old 16 rfl
    conv at h16 => rhs; whnf
    replace h16 := ev_get hFm.size h16
    refine .inl ⟨wanted_none rfl _, fun K hK => ?_⟩
    have HK := Lib.hid hK
    clear hd hFm hK
    go_simp
    exact HK.out _ _ rfl (Below.refl _ _)
  simp only [List.nil_append, List.cons_append]
  apply step_fix
  · intro a W Zs hS hFm hz hd
    have h17 := hFm.old 17 rfl
    conv at h17 => rhs; whnf
    replace h17 := ev_get hFm.size h17
    refine .inl ⟨wanted_none rfl _, fun K hK => ?_⟩
    have HK := Lib.hid hK
    clear hd hFm hK
    go_simp
    exact HK.out _ _ rfl (Below.refl _ _)
  simp only [List.nil_append, List.cons_append]
  apply step_fix
  · intro a W Zs hS hFm hz hd
    have h70 := ev_get hFm.size (hd 15 70 rfl rfl)
    have h71 := ev_get hFm.size (hd 16 71 rfl rfl)
    refine .inl ⟨wanted_none rfl _, fun K hK => ?_⟩
    have HK := Lib.hid hK
    clear hd hFm hK
    go_simp
    exact HK.out _ _ rfl (Below.refl _ _)
  simp only [List.nil_append, List.cons_append]
  apply step_fix
  · intro a W Zs hS hFm hz hd
    have h69 := ev_get hFm.size (hd 14 69 rfl rfl)
    have h72 := ev_get hFm.size (hd 17 72 rfl rfl)
    refine .inl ⟨wanted_none rfl _, fun K hK => ?_⟩
    have HK := Lib.hid hK
    clear hd hFm hK
    go_simp
    exact HK.out _ _ rfl (Below.refl _ _)
  simp only [List.nil_append, List.cons_append]
  apply step_fix
  · intro a W Zs hS hFm hz hd
    have h6 := hFm.old 6 rfl
    conv at h6 => rhs; whnf
    replace h6 := ev_get hFm.size h6
    refine .inl ⟨wanted_none rfl _, fun K hK => ?_⟩
    have HK := Lib.hid hK
    clear hd hFm hK
    go_simp
    exact HK.out _ _ rfl (Below.refl _ _)
  simp only [List.nil_append, List.cons_append]
  apply step_fix
  · intro a W Zs hS hFm hz hd
    have h19 := hFm.old 19 rfl
    conv at h19 => rhs; whnf
    replace h19 := ev_get hFm.size h19
    refine .inl ⟨wanted_none rfl _, fun K hK => ?_⟩
    have HK := Lib.hid hK
    clear hd hFm hK
    go_simp
    exact HK.out _ _ rfl (Below.refl _ _)
  simp only [List.nil_append, List.cons_append]
  apply step_fix
  · intro a W Zs hS hFm hz hd
    have h75 := ev_get hFm.size (hd 20 75 rfl rfl)
    refine .inl ⟨wanted_none rfl _, fun K hK => ?_⟩
    have HK := Lib.hid hK
    clear hd hFm hK
    go_simp
    refine (HR4.out _).mono ?_
    rintro e W' ⟨rfl, rfl⟩
    exact HK.out _ _ rfl (Below.refl _ _)
  simp only [List.nil_append, List.cons_append]
  apply step_fix
  · intro a W Zs hS hFm hz hd
    have h19 := hFm.old 19 rfl
    conv at h19 => rhs; whnf
    replace h19 := ev_get hFm.size h19
    refine .inl ⟨wanted_none rfl _, fun K hK => ?_⟩
    have HK := Lib.hid hK
    clear hd hFm hK
    go_simp
    exact HK.out _ _ rfl (Below.refl _ _)
  simp only [List.nil_append, List.cons_append]
  apply step_fix
  · intro a W Zs hS hFm hz hd
    have h4 := hFm.old 4 rfl
    conv at h4 => rhs; whnf
    replace h4 := ev_get hFm.size h4
    refine .inl ⟨wanted_none rfl _, fun K hK => ?_⟩
    have HK := Lib.hid hK
    clear hd hFm hK
    go_simp
    exact HK.out _ _ rfl (Below.refl _ _)
  simp only [List.nil_append, List.cons_append]
  apply step_fix
  · intro a W Zs hS hFm hz hd
    have h19 := hFm.old 19 rfl
    conv at h19 => rhs; whnf
    replace h19 := ev_get hFm.size h19
    refine .inl ⟨wanted_none rfl _, fun K hK => ?_⟩
    have HK := Lib.hid hK
    clear hd hFm hK
    go_simp
    exact HK.out _ _ rfl (Below.refl _ _)
  simp only [List.nil_append, List.cons_append]
  apply step_fix
  · intro a W Zs hS hFm hz hd
    have h79 := ev_get hFm.size (hd 24 79 rfl rfl)
    refine .inl ⟨wanted_none rfl _, fun K hK => ?_⟩
    have HK := Lib.hid hK
    clear hd hFm hK
    go_simp
    exact HK.out _ _ rfl (Below.refl _ _)
  simp only [List.nil_append, List.cons_append]
  apply step_fix
  · intro a W Zs hS hFm hz hd
    have h78 := ev_get hFm.size (hd 23 78 rfl rfl)
    have h80 := ev_get hFm.size (hd 25 80 rfl rfl)
    refine .inl ⟨wanted_none rfl _, fun K hK => ?_⟩
    have HK := Lib.hid hK
    clear hd hFm hK
    go_simp
    refine (HW5.out _).mono ?_
    rintro e W' ⟨rfl, rfl⟩
    exact HK.out _ _ rfl (Below.refl _ _)
  simp only [List.nil_append, List.cons_append]
  apply step_fix
  · intro a W Zs hS hFm hz hd
    have h77 := ev_get hFm.size (hd 22 77 rfl rfl)
    have h81 := ev_get hFm.size (hd 26 81 rfl rfl)
    refine .inl ⟨wanted_none rfl _, fun K hK => ?_⟩
    have HK := Lib.hid hK
    clear hd hFm hK
    go_simp
    refine (HT5.out _).mono ?_
    rintro e W' ⟨rfl, hb⟩
    exact HK.out _ _ rfl hb
  simp only [List.nil_append, List.cons_append]
  apply step_fix
  · intro a W Zs hS hFm hz hd
    have h82 := ev_get hFm.size (hd 27 82 rfl rfl)
    refine .inl ⟨wanted_none rfl _, fun K hK => ?_⟩
    have HK := Lib.hid hK
    clear hd hFm hK
    go_simp
    refine (HR5.out _).mono ?_
    rintro e W' ⟨rfl, rfl⟩
    exact HK.out _ _ rfl (Below.refl _ _)
  simp only [List.nil_append, List.cons_append]
  apply step_fix
  · intro a W Zs hS hFm hz hd
    have h18 := hFm.old 18 rfl
    conv at h18 => rhs; whnf
    replace h18 := ev_get hFm.size h18
    refine .inl ⟨wanted_none rfl _, fun K hK => ?_⟩
    have HK := Lib.hid hK
    clear hd hFm hK
    go_simp
    exact HK.out _ _ rfl (Below.refl _ _)
  simp only [List.nil_append, List.cons_append]
  apply step_fix
  · intro a W Zs hS hFm hz hd
    have h4 := hFm.old 4 rfl
    conv at h4 => rhs; whnf
    replace h4 := ev_get hFm.size h4
    refine .inl ⟨wanted_none rfl _, fun K hK => ?_⟩
    have HK := Lib.hid hK
    clear hd hFm hK
    go_simp
    exact HK.out _ _ rfl (Below.refl _ _)
  simp only [List.nil_append, List.cons_append]
  apply step_fix
  · intro a W Zs hS hFm hz hd
    have h18 := hFm.old 18 rfl
    conv at h18 => rhs; whnf
    replace h18 := ev_get hFm.size h18
    refine .inl ⟨wanted_none rfl _, fun K hK => ?_⟩
    have HK := Lib.hid hK
    clear hd hFm hK
    go_simp
    exact HK.out _ _ rfl (Below.refl _ _)
  simp only [List.nil_append, List.cons_append]
  apply step_fix
  · intro a W Zs hS hFm hz hd
    have h86 := ev_get hFm.size (hd 31 86 rfl rfl)
    refine .inl ⟨wanted_none rfl _, fun K hK => ?_⟩
    have HK := Lib.hid hK
    clear hd hFm hK
    go_simp
    exact HK.out _ _ rfl (Below.refl _ _)
  simp only [List.nil_append, List.cons_append]
  apply step_fix
  · intro a W Zs hS hFm hz hd
    have h87 := ev_get hFm.size (hd 32 87 rfl rfl)
    refine .inl ⟨wanted_none rfl _, fun K hK => ?_⟩
    have HK := Lib.hid hK
    clear hd hFm hK
    go_simp
    exact HK.out _ _ rfl (Below.refl _ _)
  simp only [List.nil_append, List.cons_append]
  apply step_fix
  · intro a W Zs hS hFm hz hd
    have h85 := ev_get hFm.size (hd 30 85 rfl rfl)
    have h88 := ev_get hFm.size (hd 33 88 rfl rfl)
    refine .inl ⟨wanted_none rfl _, fun K hK => ?_⟩
    have HK := Lib.hid hK
    clear hd hFm hK
    go_simp
    refine (HW6.out _).mono ?_
    rintro e W' ⟨rfl, rfl⟩
    exact HK.out _ _ rfl (Below.refl _ _)
  simp only [List.nil_append, List.cons_append]
  apply step_fix
  · intro a W Zs hS hFm hz hd
    have h84 := ev_get hFm.size (hd 29 84 rfl rfl)
    have h89 := ev_get hFm.size (hd 34 89 rfl rfl)
    refine .inl ⟨wanted_none rfl _, fun K hK => ?_⟩
    have HK := Lib.hid hK
    clear hd hFm hK
    go_simp
    exact HK.out _ _ rfl (Below.refl _ _)
  simp only [List.nil_append, List.cons_append]
  apply step_fix
  · intro a W Zs hS hFm hz hd
    have h90 := ev_get hFm.size (hd 35 90 rfl rfl)
    refine .inl ⟨wanted_none rfl _, fun K hK => ?_⟩
    have HK := Lib.hid hK
    clear hd hFm hK
    go_simp
    refine (HR6.out _).mono ?_
    rintro e W' ⟨rfl, rfl⟩
    exact HK.out _ _ rfl (Below.refl _ _)
  simp only [List.nil_append, List.cons_append]
  apply step_fix
  · intro a W Zs hS hFm hz hd
    have h18 := hFm.old 18 rfl
    conv at h18 => rhs; whnf
    replace h18 := ev_get hFm.size h18
    refine .inl ⟨wanted_none rfl _, fun K hK => ?_⟩
    have HK := Lib.hid hK
    clear hd hFm hK
    go_simp
    exact HK.out _ _ rfl (Below.refl _ _)
  simp only [List.nil_append, List.cons_append]
  apply step_fix
  · intro a W Zs hS hFm hz hd
    have h4 := hFm.old 4 rfl
    conv at h4 => rhs; whnf
    replace h4 := ev_get hFm.size h4
    refine .inl ⟨wanted_none rfl _, fun K hK => ?_⟩
    have HK := Lib.hid hK
    clear hd hFm hK
    go_simp
    exact HK.out _ _ rfl (Below.refl _ _)
  simp only [List.nil_append, List.cons_append]
  apply step_fix
  · intro a W Zs hS hFm hz hd
    have h3 := hFm.old 3 rfl
    conv at h3 => rhs; whnf
    replace h3 := ev_get hFm.size h3
    refine .inl ⟨wanted_none rfl _, fun K hK => ?_⟩
    have HK := Lib.hid hK
    clear hd hFm hK
    go_simp
    exact HK.out _ _ rfl (Below.refl _ _)
  simp only [List.nil_append, List.cons_append]
  apply step_fix
  · intro a W Zs hS hFm hz hd
    have h94 := ev_get hFm.size (hd 39 94 rfl rfl)
    refine .inl ⟨wanted_none rfl _, fun K hK => ?_⟩
    have HK := Lib.hid hK
    clear hd hFm hK
    go_simp
    refine (HW7.out _).mono ?_
    rintro e W' ⟨rfl, rfl⟩
    exact HK.out _ _ rfl (Below.refl _ _)
  simp only [List.nil_append, List.cons_append]
  apply step_fix
  · intro a W Zs hS hFm hz hd
    have h95 := ev_get hFm.size (hd 40 95 rfl rfl)
    refine .inl ⟨wanted_none rfl _, fun K hK => ?_⟩
    have HK := Lib.hid hK
    clear hd hFm hK
    go_simp
    exact HK.out _ _ rfl (Below.refl _ _)
  simp only [List.nil_append, List.cons_append]
  apply step_fix
  · intro a W Zs hS hFm hz hd
    have h93 := ev_get hFm.size (hd 38 93 rfl rfl)
    have h96 := ev_get hFm.size (hd 41 96 rfl rfl)
    refine .inl ⟨wanted_none rfl _, fun K hK => ?_⟩
    have HK := Lib.hid hK
    clear hd hFm hK
    go_simp
    refine (HB7.out _).mono ?_
    rintro e W' ⟨rfl, rfl⟩
    exact HK.out _ _ rfl (Below.refl _ _)
  simp only [List.nil_append, List.cons_append]
  apply step_fix
  · intro a W Zs hS hFm hz hd
    have h92 := ev_get hFm.size (hd 37 92 rfl rfl)
    have h97 := ev_get hFm.size (hd 42 97 rfl rfl)
    refine .inl ⟨wanted_none rfl _, fun K hK => ?_⟩
    have HK := Lib.hid hK
    clear hd hFm hK
    go_simp
    exact HK.out _ _ rfl (Below.refl _ _)
  simp only [List.nil_append, List.cons_append]
  apply step_fix
  · intro a W Zs hS hFm hz hd
    have h98 := ev_get hFm.size (hd 43 98 rfl rfl)
    refine .inl ⟨wanted_none rfl _, fun K hK => ?_⟩
    have HK := Lib.hid hK
    clear hd hFm hK
    go_simp
    refine (HR7.out _).mono ?_
    rintro e W' ⟨rfl, rfl⟩
    exact HK.out _ _ rfl (Below.refl _ _)
  simp only [List.nil_append, List.cons_append]
  apply step_blk
  · intro a W Zs hS hFm hz hd
    have h60 := ev_get hFm.size (hd 5 60 rfl rfl)
    have h63 := ev_get hFm.size (hd 8 63 rfl rfl)
    have h73 := ev_get hFm.size (hd 18 73 rfl rfl)
    have h74 := ev_get hFm.size (hd 19 74 rfl rfl)
    have h76 := ev_get hFm.size (hd 21 76 rfl rfl)
    have h83 := ev_get hFm.size (hd 28 83 rfl rfl)
    have h91 := ev_get hFm.size (hd 36 91 rfl rfl)
    have h99 := ev_get hFm.size (hd 44 99 rfl rfl)
    refine .inl ⟨wanted_none rfl _, fun K hK => ?_⟩
    have HK := Lib.hid hK
    clear hd hFm hK
    go_simp
    exact HK.out _ _ ⟨_, rfl, Blk.new _ _ _, .inr (.inl ⟨Nat.le_refl _, by simp⟩)⟩ (alloc_below _ _)
  simp only [List.nil_append, List.cons_append]
  apply step_blk
  · intro a W Zs hS hFm hz hd
    obtain ⟨b100, e100, q100, f100⟩ := hd 45 100 rfl rfl
    have h100 := ev_get hFm.size e100
    refine .inl ⟨wanted_none rfl _, fun K hK => ?_⟩
    have HK := Lib.hid hK
    clear hd hFm hK
    go_simp
    exact HK.out _ _ ⟨b100, rfl, q100, f100.imp id (foot_dep 45 rfl rfl rfl _)⟩ (Below.refl _ _)
  simp only [List.nil_append, List.cons_append]
  intro a w4 Zs hS hFm hz hd
  obtain ⟨b20, e20, q20, f20⟩ := hd 46 20 rfl
  have e0 := hFm.old 0 rfl
  conv at e0 => rhs; whnf
  have e1 := hFm.old 1 rfl
  conv at e1 => rhs; whnf
  have e2 := hFm.old 2 rfl
  conv at e2 => rhs; whnf
  have e3 := hFm.old 3 rfl
  conv at e3 => rhs; whnf
  have e4 := hFm.old 4 rfl
  conv at e4 => rhs; whnf
  have e5 := hFm.old 5 rfl
  conv at e5 => rhs; whnf
  have e6 := hFm.old 6 rfl
  conv at e6 => rhs; whnf
  have e7 := hFm.old 7 rfl
  conv at e7 => rhs; whnf
  have e8 := hFm.old 8 rfl
  conv at e8 => rhs; whnf
  have e9 := hFm.old 9 rfl
  conv at e9 => rhs; whnf
  have e10 := hFm.old 10 rfl
  conv at e10 => rhs; whnf
  have e11 := hFm.old 11 rfl
  conv at e11 => rhs; whnf
  have e12 := hFm.old 12 rfl
  conv at e12 => rhs; whnf
  have e13 := hFm.old 13 rfl
  conv at e13 => rhs; whnf
  have e14 := hFm.old 14 rfl
  conv at e14 => rhs; whnf
  have e15 := hFm.old 15 rfl
  conv at e15 => rhs; whnf
  have e16 := hFm.old 16 rfl
  conv at e16 => rhs; whnf
  have e17 := hFm.old 17 rfl
  conv at e17 => rhs; whnf
  have e18 := hFm.old 18 rfl
  conv at e18 => rhs; whnf
  have e19 := hFm.old 19 rfl
  conv at e19 => rhs; whnf
  have e21 := hFm.old 21 rfl
  conv at e21 => rhs; whnf
  have e22 := hFm.old 22 rfl
  conv at e22 => rhs; whnf
  have e23 := hFm.old 23 rfl
  conv at e23 => rhs; whnf
  have e24 := hFm.old 24 rfl
  conv at e24 => rhs; whnf
  have e25 := hFm.old 25 rfl
  conv at e25 => rhs; whnf
  have e26 := hFm.old 26 rfl
  conv at e26 => rhs; whnf
  have e27 := hFm.old 27 rfl
  conv at e27 => rhs; whnf
  have e28 := hFm.old 28 rfl
  conv at e28 => rhs; whnf
  have e29 := hFm.old 29 rfl
  conv at e29 => rhs; whnf
  have e30 := hFm.old 30 rfl
  conv at e30 => rhs; whnf
  have e31 := hFm.old 31 rfl
  conv at e31 => rhs; whnf
  have e32 := hFm.old 32 rfl
  conv at e32 => rhs; whnf
  have e33 := hFm.old 33 rfl
  conv at e33 => rhs; whnf
  have e34 := hFm.old 34 rfl
  conv at e34 => rhs; whnf
  have e35 := hFm.old 35 rfl
  conv at e35 => rhs; whnf
  have e36 := hFm.old 36 rfl
  conv at e36 => rhs; whnf
  have e37 := hFm.old 37 rfl
  conv at e37 => rhs; whnf
  have e38 := hFm.old 38 rfl
  conv at e38 => rhs; whnf
  have e39 := hFm.old 39 rfl
  conv at e39 => rhs; whnf
  have e40 := hFm.old 40 rfl
  conv at e40 => rhs; whnf
  have e41 := hFm.old 41 rfl
  conv at e41 => rhs; whnf
  have e42 := hFm.old 42 rfl
  conv at e42 => rhs; whnf
  have e43 := hFm.old 43 rfl
  conv at e43 => rhs; whnf
  have e44 := hFm.old 44 rfl
  conv at e44 => rhs; whnf
  have e45 := hFm.old 45 rfl
  conv at e45 => rhs; whnf
  have e46 := hFm.old 46 rfl
  conv at e46 => rhs; whnf
  have e47 := hFm.old 47 rfl
  conv at e47 => rhs; whnf
  have e48 := hFm.old 48 rfl
  conv at e48 => rhs; whnf
  have e49 := hFm.old 49 rfl
  conv at e49 => rhs; whnf
  have e50 := hFm.old 50 rfl
  conv at e50 => rhs; whnf
  have e51 := hFm.old 51 rfl
  conv at e51 => rhs; whnf
  have e52 := hFm.old 52 rfl
  conv at e52 => rhs; whnf
  have e53 := hFm.old 53 rfl
  conv at e53 => rhs; whnf
  have e54 := hFm.old 54 rfl
  conv at e54 => rhs; whnf
  have e101 := hFm.old 101 rfl
  conv at e101 => rhs; whnf
  have e102 := hFm.old 102 rfl
  conv at e102 => rhs; whnf
  have e103 := hFm.old 103 rfl
  conv at e103 => rhs; whnf
  have e104 := hFm.old 104 rfl
  conv at e104 => rhs; whnf
  have e105 := hFm.old 105 rfl
  conv at e105 => rhs; whnf
  have e106 := hFm.old 106 rfl
  conv at e106 => rhs; whnf
  have e107 := hFm.old 107 rfl
  conv at e107 => rhs; whnf
  have e108 := hFm.old 108 rfl
  conv at e108 => rhs; whnf
  have e109 := hFm.old 109 rfl
  conv at e109 => rhs; whnf
  have e110 := hFm.old 110 rfl
  conv at e110 => rhs; whnf
  have e111 := hFm.old 111 rfl
  conv at e111 => rhs; whnf
  have e112 := hFm.old 112 rfl
  conv at e112 => rhs; whnf
  have e113 := hFm.old 113 rfl
  conv at e113 => rhs; whnf
  have e114 := hFm.old 114 rfl
  conv at e114 => rhs; whnf
  have e115 := hFm.old 115 rfl
  conv at e115 => rhs; whnf
  have e116 := hFm.old 116 rfl
  conv at e116 => rhs; whnf
  have e117 := hFm.old 117 rfl
  conv at e117 => rhs; whnf
  have e118 := hFm.old 118 rfl
  conv at e118 => rhs; whnf
  have e119 := hFm.old 119 rfl
  conv at e119 => rhs; whnf
  have e120 := hFm.old 120 rfl
  conv at e120 => rhs; whnf
  have e121 := hFm.old 121 rfl
  conv at e121 => rhs; whnf
  have e122 := hFm.old 122 rfl
  conv at e122 => rhs; whnf
  have e123 := hFm.old 123 rfl
  conv at e123 => rhs; whnf
  have e124 := hFm.old 124 rfl
  conv at e124 => rhs; whnf
  have e125 := hFm.old 125 rfl
  conv at e125 => rhs; whnf
  have e126 := hFm.old 126 rfl
  conv at e126 => rhs; whnf
  have e127 := hFm.old 127 rfl
  conv at e127 => rhs; whnf
  have e128 := hFm.old 128 rfl
  conv at e128 => rhs; whnf
  have e129 := hFm.old 129 rfl
  conv at e129 => rhs; whnf
  have e130 := hFm.old 130 rfl
  conv at e130 => rhs; whnf
  have e131 := hFm.old 131 rfl
  conv at e131 => rhs; whnf
  have e132 := hFm.old 132 rfl
  conv at e132 => rhs; whnf
  have e133 := hFm.old 133 rfl
  conv at e133 => rhs; whnf
  have hsz := hFm.size
  have hdf := hFm.defers
  clear hd hFm
  obtain ⟨t, df⟩ := a
  simp only at hsz hdf
  subst hdf
  obtain ⟨x, hx⟩ : ∃ x : Nat → Value, ∀ i, t.getD i undef = x i := ⟨fun i => t.getD i undef, fun _ => rfl⟩
  have h20 := (hx 20).symm.trans e20
  have h0 := (hx 0).symm.trans e0
  have h1 := (hx 1).symm.trans e1
  have h2 := (hx 2).symm.trans e2
  have h3 := (hx 3).symm.trans e3
  have h4 := (hx 4).symm.trans e4
  have h5 := (hx 5).symm.trans e5
  have h6 := (hx 6).symm.trans e6
  have h7 := (hx 7).symm.trans e7
  have h8 := (hx 8).symm.trans e8
  have h9 := (hx 9).symm.trans e9
  have h10 := (hx 10).symm.trans e10
  have h11 := (hx 11).symm.trans e11
  have h12 := (hx 12).symm.trans e12
  have h13 := (hx 13).symm.trans e13
  have h14 := (hx 14).symm.trans e14
  have h15 := (hx 15).symm.trans e15
  have h16 := (hx 16).symm.trans e16
  have h17 := (hx 17).symm.trans e17
  have h18 := (hx 18).symm.trans e18
  have h19 := (hx 19).symm.trans e19
  have h21 := (hx 21).symm.trans e21
  have h22 := (hx 22).symm.trans e22
  have h23 := (hx 23).symm.trans e23
  have h24 := (hx 24).symm.trans e24
  have h25 := (hx 25).symm.trans e25
  have h26 := (hx 26).symm.trans e26
  have h27 := (hx 27).symm.trans e27
  have h28 := (hx 28).symm.trans e28
  have h29 := (hx 29).symm.trans e29
  have h30 := (hx 30).symm.trans e30
  have h31 := (hx 31).symm.trans e31
  have h32 := (hx 32).symm.trans e32
  have h33 := (hx 33).symm.trans e33
  have h34 := (hx 34).symm.trans e34
  have h35 := (hx 35).symm.trans e35
  have h36 := (hx 36).symm.trans e36
  have h37 := (hx 37).symm.trans e37
  have h38 := (hx 38).symm.trans e38
  have h39 := (hx 39).symm.trans e39
  have h40 := (hx 40).symm.trans e40
  have h41 := (hx 41).symm.trans e41
  have h42 := (hx 42).symm.trans e42
  have h43 := (hx 43).symm.trans e43
  have h44 := (hx 44).symm.trans e44
  have h45 := (hx 45).symm.trans e45
  have h46 := (hx 46).symm.trans e46
  have h47 := (hx 47).symm.trans e47
  have h48 := (hx 48).symm.trans e48
  have h49 := (hx 49).symm.trans e49
  have h50 := (hx 50).symm.trans e50
  have h51 := (hx 51).symm.trans e51
  have h52 := (hx 52).symm.trans e52
  have h53 := (hx 53).symm.trans e53
  have h54 := (hx 54).symm.trans e54
  have h101 := (hx 101).symm.trans e101
  have h102 := (hx 102).symm.trans e102
  have h103 := (hx 103).symm.trans e103
  have h104 := (hx 104).symm.trans e104
  have h105 := (hx 105).symm.trans e105
  have h106 := (hx 106).symm.trans e106
  have h107 := (hx 107).symm.trans e107
  have h108 := (hx 108).symm.trans e108
  have h109 := (hx 109).symm.trans e109
  have h110 := (hx 110).symm.trans e110
  have h111 := (hx 111).symm.trans e111
  have h112 := (hx 112).symm.trans e112
  have h113 := (hx 113).symm.trans e113
  have h114 := (hx 114).symm.trans e114
  have h115 := (hx 115).symm.trans e115
  have h116 := (hx 116).symm.trans e116
  have h117 := (hx 117).symm.trans e117
  have h118 := (hx 118).symm.trans e118
  have h119 := (hx 119).symm.trans e119
  have h120 := (hx 120).symm.trans e120
  have h121 := (hx 121).symm.trans e121
  have h122 := (hx 122).symm.trans e122
  have h123 := (hx 123).symm.trans e123
  have h124 := (hx 124).symm.trans e124
  have h125 := (hx 125).symm.trans e125
  have h126 := (hx 126).symm.trans e126
  have h127 := (hx 127).symm.trans e127
  have h128 := (hx 128).symm.trans e128
  have h129 := (hx 129).symm.trans e129
  have h130 := (hx 130).symm.trans e130
  have h131 := (hx 131).symm.trans e131
  have h132 := (hx 132).symm.trans e132
  have h133 := (hx 133).symm.trans e133
  have ht' : t = #[x 0, x 1, x 2, x 3, x 4, x 5, x 6, x 7, x 8, x 9, x 10, x 11, x 12, x 13, x 14, x 15, x 16, x 17, x 18, x 19, x 20, x 21, x 22, x 23, x 24, x 25, x 26, x 27, x 28, x 29, x 30, x 31, x 32, x 33, x 34, x 35, x 36, x 37, x 38, x 39, x 40, x 41, x 42, x 43, x 44, x 45, x 46, x 47, x 48, x 49, x 50, x 51, x 52, x 53, x 54, x 55, x 56, x 57, x 58, x 59, x 60, x 61, x 62, x 63, x 64, x 65, x 66, x 67, x 68, x 69, x 70, x 71, x 72, x 73, x 74, x 75, x 76, x 77, x 78, x 79, x 80, x 81, x 82, x 83, x 84, x 85, x 86, x 87, x 88, x 89, x 90, x 91, x 92, x 93, x 94, x 95, x 96, x 97, x 98, x 99, x 100, x 101, x 102, x 103, x 104, x 105, x 106, x 107, x 108, x 109, x 110, x 111, x 112, x 113, x 114, x 115, x 116, x 117, x 118, x 119, x 120, x 121, x 122, x 123, x 124, x 125, x 126, x 127, x 128, x 129, x 130, x 131, x 132, x 133] := frame_lit t 134 hsz x hx
  clear hx hsz hz e20 e0 e1 e2 e3 e4 e5 e6 e7 e8 e9 e10 e11 e12 e13 e14 e15 e16 e17 e18 e19 e21 e22 e23 e24 e25 e26 e27 e28 e29 e30 e31 e32 e33 e34 e35 e36 e37 e38 e39 e40 e41 e42 e43 e44 e45 e46 e47 e48 e49 e50 e51 e52 e53 e54 e101 e102 e103 e104 e105 e106 e107 e108 e109 e110 e111 e112 e113 e114 e115 e116 e117 e118 e119 e120 e121 e122 e123 e124 e125 e126 e127 e128 e129 e130 e131 e132 e133
  subst ht'
  dsimp only
  rw [h20, h0, h1, h2, h3, h4, h5, h6, h7, h8, h9, h10, h11, h12, h13, h14, h15, h16, h17, h18, h19, h21, h22, h23, h24, h25, h26, h27, h28, h29, h30, h31, h32, h33, h34, h35, h36, h37, h38, h39, h40, h41, h42, h43, h44, h45, h46, h47, h48, h49, h50, h51, h52, h53, h54, h101, h102, h103, h104, h105, h106, h107, h108, h109, h110, h111, h112, h113, h114, h115, h116, h117, h118, h119, h120, h121, h122, h123, h124, h125, h126, h127, h128, h129, h130, h131, h132, h133]
  clear h20 h0 h1 h2 h3 h4 h5 h6 h7 h8 h9 h10 h11 h12 h13 h14 h15 h16 h17 h18 h19 h21 h22 h23 h24 h25 h26 h27 h28 h29 h30 h31 h32 h33 h34 h35 h36 h37 h38 h39 h40 h41 h42 h43 h44 h45 h46 h47 h48 h49 h50 h51 h52 h53 h54 h101 h102 h103 h104 h105 h106 h107 h108 h109 h110 h111 h112 h113 h114 h115 h116 h117 h118 h119 h120 h121 h122 h123 h124 h125 h126 h127 h128 h129 h130 h131 h132 h133
  have hb2 := from_drew hS
  replace hB := hB.trans (hb2.mono hB.size)
  replace hD := hD.later hb2
  replace hrd := hrd.later hb2
  clear hS hb2
  have hq : Blk w4 b20 9 (strs8 l0 (s.take k) (s.take k ++ M ++ (s.drop k).take (s.length - k)) raw l4 l5 l6 l7) := by first | exact q20 | (simp only [List.append_assoc]; exact q20)
  have HG := Lib.hid (fun j hj => strs8_get l0 (s.take k) (s.take k ++ M ++ (s.drop k).take (s.length - k)) raw l4 l5 l6 l7 j hj g0 g1 g2 g3 g4 g5 g6 g7)
  generalize strs8 l0 (s.take k) (s.take k ++ M ++ (s.drop k).take (s.length - k)) raw l4 l5 l6 l7 = cs at *
  clear q20 f20 HW3 HT3 HX HR4 HW5 HT5 HR5 HW6 HR6 HW7 HB7 HR7 ad1 ad2 ad7 g0 g1 g2 g3 g4 g5 g6 g7 gd g1' g5' g6' g7' hms
  go_wp2
  go_loopw [21] (fun i w' => ReadsTo d da dc db b20 cs w i w') (fun i _ => 8 - (intOf i).toNat)
  case atStart => exact ⟨0, Nat.zero_le _, rfl, hB, hD, hq, hrd⟩
  case round =>
    clear hB hD hq hrd
    obtain ⟨j, hj8, rfl, hB, hD, hq, hrd⟩ := hrel
    by_cases hlt : j < 8
    · have d1 : decide ((j : Int) < 8) = true := by simp; omega
      have d2 : decide (j < 8) = true := by simp; omega
      obtain ⟨l, hl, hll⟩ := HG.out j hlt
      obtain ⟨p, er, hp⟩ : ∃ p er, readF d l = (p, er) := ⟨_, _, rfl⟩
      have HR1 := Lib.hid (fun W => fRead_at d da dc l W hok (by omega) p er hp)
      have HR2 := Lib.hid (fun W h => rRead_at d da dc l W hok h (by omega) p er hp)
      have j0 : (0 : Int) ≤ (j : Int) := by omega
      have j1 : (j : Int) < 8 := by omega
      clear hp
      go_upto_region 14 with fail
      refine region_slots [some 108, some 109, some 110, some 111, some 112, some 113, some 107, some 114, some 115, some 22, none, some 23] [none, none, none, none, none, none, none, none, none, none, some 9, none] 134 (by kernel_rfl) (by kernel_rfl) rfl rfl ?_
      apply step_fix
      · intro a W Zs hS hFm hz hd
        have h15 := hFm.old 15 rfl
        conv at h15 => rhs; whnf
        replace h15 := ev_get hFm.size h15
        have hq := (hD.drew1.later hS).at
        unfold confBox at hq
        refine .inl ⟨wanted_none rfl _, fun K hK => ?_⟩
        have HK := Lib.hid hK
        clear hd hFm hK
        go_simp
        exact HK.out _ _ rfl (Below.refl _ _)
      simp only [List.nil_append, List.cons_append]
      apply step_fix
      · intro a W Zs hS hFm hz hd
        have h20 := hFm.old 20 rfl
        conv at h20 => rhs; whnf
        replace h20 := ev_get hFm.size h20
        refine .inl ⟨wanted_none rfl _, fun K hK => ?_⟩
        have HK := Lib.hid hK
        clear hd hFm hK
        go_simp
        exact HK.out _ _ rfl (Below.refl _ _)
      simp only [List.nil_append, List.cons_append]
      apply step_fix
      · intro a W Zs hS hFm hz hd
        have h21 := hFm.old 21 rfl
        conv at h21 => rhs; whnf
        replace h21 := ev_get hFm.size h21
        refine .inl ⟨wanted_none rfl _, fun K hK => ?_⟩
        have HK := Lib.hid hK
        clear hd hFm hK
        go_simp
        exact HK.out _ _ rfl (Below.refl _ _)
      simp only [List.nil_append, List.cons_append]
      apply step_fix
      · intro a W Zs hS hFm hz hd
        have h109 := ev_get hFm.size (hd 1 109 rfl rfl)
        have h110 := ev_get hFm.size (hd 2 110 rfl rfl)
        refine .inl ⟨wanted_none rfl _, fun K hK => ?_⟩
        have HK := Lib.hid hK
        clear hd hFm hK
        go_simp
        exact HK.out _ _ rfl (Below.refl _ _)
      simp only [List.nil_append, List.cons_append]
      apply step_fix
      · intro a W Zs hS hFm hz hd
        have h111 := ev_get hFm.size (hd 3 111 rfl rfl)
        have hq2 : W.cell? ⟨b20, j, none⟩ = some (.string ⟨l.toArray⟩) := by rw [(hq.drew1.later hS).at]; exact hl
        refine .inl ⟨wanted_none rfl _, fun K hK => ?_⟩
        have HK := Lib.hid hK
        clear hd hFm hK
        go_simp
        exact HK.out _ _ rfl (Below.refl _ _)
      simp only [List.nil_append, List.cons_append]
      refine step_of (rdF _ (p) (er)) (rdF_good _ _ _) ?_ ?_
      · intro a W Zs hS hFm hz hd
        have h108 := ev_get hFm.size (hd 0 108 rfl rfl)
        have h112 := ev_get hFm.size (hd 4 112 rfl rfl)
        refine .inl ⟨wanted_none rfl _, fun K hK => ?_⟩
        have HK := Lib.hid hK
        clear hd hFm hK
        go_simp
        refine (HR1.out _).mono ?_
        rintro e W' ⟨ra, rc, rfl, hr, hfr, hb⟩
        exact HK.out _ _ ⟨ra, rc, rfl, hr, hr.foot hfr⟩ hb
      simp only [List.nil_append, List.cons_append]
      refine step_of (rdF _ (p) (er)) (rdF_good _ _ _) ?_ ?_
      · intro a W Zs hS hFm hz hd
        obtain ⟨a113, c113, e113, r113, f113⟩ := hd 5 113 rfl rfl
        have h113 := ev_get hFm.size e113
        refine .inl ⟨wanted_none rfl _, fun K hK => ?_⟩
        have HK := Lib.hid hK
        clear hd hFm hK
        go_simp
        exact HK.out _ _ ⟨a113, c113, rfl, r113, ft_mono f113 (foot_dep 5 rfl rfl rfl)⟩ (Below.refl _ _)
      simp only [List.nil_append, List.cons_append]
      refine step_of (frF _ (p)) (frF_good _ _) ?_ ?_
      · intro a W Zs hS hFm hz hd
        obtain ⟨a107, c107, e107, r107, f107⟩ := hd 6 107 rfl rfl
        have h107 := ev_get hFm.size e107
        refine .inl ⟨wanted_none rfl _, fun K hK => ?_⟩
        have HK := Lib.hid hK
        clear hd hFm hK
        go_simp
        exact HK.out _ _ ⟨a107, c107, rfl, r107, ft_mono f107 (foot_dep 6 rfl rfl rfl)⟩ (Below.refl _ _)
      simp only [List.nil_append, List.cons_append]
      apply step_fix
      · intro a W Zs hS hFm hz hd
        obtain ⟨a107, c107, e107, r107, f107⟩ := hd 6 107 rfl rfl
        have h107 := ev_get hFm.size e107
        refine .inl ⟨wanted_none rfl _, fun K hK => ?_⟩
        have HK := Lib.hid hK
        clear hd hFm hK
        go_simp
        exact HK.out _ _ rfl (Below.refl _ _)
      simp only [List.nil_append, List.cons_append]
      refine step_of (boxF _ 29 6) (boxF_good _ _ _) ?_ ?_
      · intro a W Zs hS hFm hz hd
        refine .inl ⟨wanted_none rfl _, fun K hK => ?_⟩
        have HK := Lib.hid hK
        clear hd hFm hK
        go_simp
        exact HK.out _ _ ⟨_, _, rfl, rfl, Blk.new _ _ _, .inl ⟨Nat.le_refl _, by simp⟩⟩ (alloc_below _ _)
      simp only [List.nil_append, List.cons_append]
      refine step_of (frBoxF _ (p)) (frBoxF_good _ _) ?_ ?_
      · intro a W Zs hS hFm hz hd hap
        obtain ⟨b22, cs22, e22, n22, q22, z22⟩ := hd 9 22 rfl rfl
        have h22 := ev_get hFm.size e22
        obtain ⟨a114, c114, e114, r114, f114⟩ := hd 7 114 rfl rfl
        have h114 := ev_get hFm.size e114
        have hB0 := (hz 9 _ rfl z22).1
        obtain ⟨u0, u1, u2, u3, u4, u5, rfl⟩ := arr6 n22
        have hq := q22.at
        have hfz := q22.frozen
        refine ⟨wanted_none rfl _, b22, z22, fun K hK => ?_⟩
        have HK := Lib.hid hK
        clear hd hFm hK
        go_simp
        exact HK.out undef _ (Only.fill6 _ _ _ _ _ _ _ _) (fun d hd' => by injection hd' with hd'; subst hd'; exact ⟨⟨b22, a114, c114, e22, q22.fill6 _ _ _ _ _ _, r114.agree f114 (store_apart (Only.fill6 W b22 _ _ _ _ _ _) hB0 z22 hap 7 rfl (by decide)), .inr (.inl rfl), ft_mono f114 (foot_depS 7 rfl rfl rfl)⟩, ⟨b22, _, e22, rfl, q22.fill6 _ _ _ _ _ _, z22⟩⟩)
      simp only [List.nil_append, List.cons_append]
      apply step_fix
      · intro a W Zs hS hFm hz hd
        have h115 := ev_get hFm.size (hd 8 115 rfl rfl)
        refine .inl ⟨wanted_none rfl _, fun K hK => ?_⟩
        have HK := Lib.hid hK
        clear hd hFm hK
        go_simp
        exact HK.out _ _ rfl (Below.refl _ _)
      simp only [List.nil_append, List.cons_append]
      intro a w5 Zs hS hFm hz hd
      obtain ⟨b22, a22, c22, e22, q22, r22, f22, g22⟩ := hd 10 22 rfl
      have e23 := hd 11 23 rfl
      have e0 := hFm.old 0 rfl
      conv at e0 => rhs; whnf
      have e1 := hFm.old 1 rfl
      conv at e1 => rhs; whnf
      have e2 := hFm.old 2 rfl
      conv at e2 => rhs; whnf
      have e3 := hFm.old 3 rfl
      conv at e3 => rhs; whnf
      have e4 := hFm.old 4 rfl
      conv at e4 => rhs; whnf
      have e5 := hFm.old 5 rfl
      conv at e5 => rhs; whnf
      have e6 := hFm.old 6 rfl
      conv at e6 => rhs; whnf
      have e7 := hFm.old 7 rfl
      conv at e7 => rhs; whnf
      have e8 := hFm.old 8 rfl
      conv at e8 => rhs; whnf
      have e9 := hFm.old 9 rfl
      conv at e9 => rhs; whnf
      have e10 := hFm.old 10 rfl
      conv at e10 => rhs; whnf
      have e11 := hFm.old 11 rfl
      conv at e11 => rhs; whnf
      have e12 := hFm.old 12 rfl
      conv at e12 => rhs; whnf
      have e13 := hFm.old 13 rfl
      conv at e13 => rhs; whnf
      have e14 := hFm.old 14 rfl
      conv at e14 => rhs; whnf
      have e15 := hFm.old 15 rfl
      conv at e15 => rhs; whnf
      have e16 := hFm.old 16 rfl
      conv at e16 => rhs; whnf
      have e17 := hFm.old 17 rfl
      conv at e17 => rhs; whnf
      have e18 := hFm.old 18 rfl
      conv at e18 => rhs; whnf
      have e19 := hFm.old 19 rfl
      conv at e19 => rhs; whnf
      have e20 := hFm.old 20 rfl
      conv at e20 => rhs; whnf
      have e21 := hFm.old 21 rfl
      conv at e21 => rhs; whnf
      have e24 := hFm.old 24 rfl
      conv at e24 => rhs; whnf
      have e25 := hFm.old 25 rfl
      conv at e25 => rhs; whnf
      have e26 := hFm.old 26 rfl
      conv at e26 => rhs; whnf
      have e27 := hFm.old 27 rfl
      conv at e27 => rhs; whnf
      have e28 := hFm.old 28 rfl
      conv at e28 => rhs; whnf
      have e29 := hFm.old 29 rfl
      conv at e29 => rhs; whnf
      have e30 := hFm.old 30 rfl
      conv at e30 => rhs; whnf
      have e31 := hFm.old 31 rfl
      conv at e31 => rhs; whnf
      have e32 := hFm.old 32 rfl
      conv at e32 => rhs; whnf
      have e33 := hFm.old 33 rfl
      conv at e33 => rhs; whnf
      have e34 := hFm.old 34 rfl
      conv at e34 => rhs; whnf
      have e35 := hFm.old 35 rfl
      conv at e35 => rhs; whnf
      have e36 := hFm.old 36 rfl
      conv at e36 => rhs; whnf
      have e37 := hFm.old 37 rfl
      conv at e37 => rhs; whnf
      have e38 := hFm.old 38 rfl
      conv at e38 => rhs; whnf
      have e39 := hFm.old 39 rfl
      conv at e39 => rhs; whnf
      have e40 := hFm.old 40 rfl
      conv at e40 => rhs; whnf
      have e41 := hFm.old 41 rfl
      conv at e41 => rhs; whnf
      have e42 := hFm.old 42 rfl
      conv at e42 => rhs; whnf
      have e43 := hFm.old 43 rfl
      conv at e43 => rhs; whnf
      have e44 := hFm.old 44 rfl
      conv at e44 => rhs; whnf
      have e45 := hFm.old 45 rfl
      conv at e45 => rhs; whnf
      have e46 := hFm.old 46 rfl
      conv at e46 => rhs; whnf
      have e47 := hFm.old 47 rfl
      conv at e47 => rhs; whnf
      have e48 := hFm.old 48 rfl
      conv at e48 => rhs; whnf
      have e49 := hFm.old 49 rfl
      conv at e49 => rhs; whnf
      have e50 := hFm.old 50 rfl
      conv at e50 => rhs; whnf
      have e51 := hFm.old 51 rfl
      conv at e51 => rhs; whnf
      have e52 := hFm.old 52 rfl
      conv at e52 => rhs; whnf
      have e53 := hFm.old 53 rfl
      conv at e53 => rhs; whnf
      have e54 := hFm.old 54 rfl
      conv at e54 => rhs; whnf
      have e55 := hFm.old 55 rfl
      conv at e55 => rhs; whnf
      have e56 := hFm.old 56 rfl
      conv at e56 => rhs; whnf
      have e57 := hFm.old 57 rfl
      conv at e57 => rhs; whnf
      have e58 := hFm.old 58 rfl
      conv at e58 => rhs; whnf
      have e59 := hFm.old 59 rfl
      conv at e59 => rhs; whnf
      have e60 := hFm.old 60 rfl
      conv at e60 => rhs; whnf
      have e61 := hFm.old 61 rfl
      conv at e61 => rhs; whnf
      have e62 := hFm.old 62 rfl
      conv at e62 => rhs; whnf
      have e63 := hFm.old 63 rfl
      conv at e63 => rhs; whnf
      have e64 := hFm.old 64 rfl
      conv at e64 => rhs; whnf
      have e65 := hFm.old 65 rfl
      conv at e65 => rhs; whnf
      have e66 := hFm.old 66 rfl
      conv at e66 => rhs; whnf
      have e67 := hFm.old 67 rfl
      conv at e67 => rhs; whnf
      have e68 := hFm.old 68 rfl
      conv at e68 => rhs; whnf
      have e69 := hFm.old 69 rfl
      conv at e69 => rhs; whnf
      have e70 := hFm.old 70 rfl
      conv at e70 => rhs; whnf
      have e71 := hFm.old 71 rfl
      conv at e71 => rhs; whnf
      have e72 := hFm.old 72 rfl
      conv at e72 => rhs; whnf
      have e73 := hFm.old 73 rfl
      conv at e73 => rhs; whnf
      have e74 := hFm.old 74 rfl
      conv at e74 => rhs; whnf
      have e75 := hFm.old 75 rfl
      conv at e75 => rhs; whnf
      have e76 := hFm.old 76 rfl
      conv at e76 => rhs; whnf
      have e77 := hFm.old 77 rfl
      conv at e77 => rhs; whnf
      have e78 := hFm.old 78 rfl
      conv at e78 => rhs; whnf
      have e79 := hFm.old 79 rfl
      conv at e79 => rhs; whnf
      have e80 := hFm.old 80 rfl
      conv at e80 => rhs; whnf
      have e81 := hFm.old 81 rfl
      conv at e81 => rhs; whnf
      have e82 := hFm.old 82 rfl
      conv at e82 => rhs; whnf
      have e83 := hFm.old 83 rfl
      conv at e83 => rhs; whnf
      have e84 := hFm.old 84 rfl
      conv at e84 => rhs; whnf
      have e85 := hFm.old 85 rfl
      conv at e85 => rhs; whnf
      have e86 := hFm.old 86 rfl
      conv at e86 => rhs; whnf
      have e87 := hFm.old 87 rfl
      conv at e87 => rhs; whnf
      have e88 := hFm.old 88 rfl
      conv at e88 => rhs; whnf
      have e89 := hFm.old 89 rfl
      conv at e89 => rhs; whnf
      have e90 := hFm.old 90 rfl
      conv at e90 => rhs; whnf
      have e91 := hFm.old 91 rfl
      conv at e91 => rhs; whnf
      have e92 := hFm.old 92 rfl
      conv at e92 => rhs; whnf
      have e93 := hFm.old 93 rfl
      conv at e93 => rhs; whnf
      have e94 := hFm.old 94 rfl
      conv at e94 => rhs; whnf
      have e95 := hFm.old 95 rfl
      conv at e95 => rhs; whnf
      have e96 := hFm.old 96 rfl
      conv at e96 => rhs; whnf
      have e97 := hFm.old 97 rfl
      conv at e97 => rhs; whnf
      have e98 := hFm.old 98 rfl
      conv at e98 => rhs; whnf
      have e99 := hFm.old 99 rfl
      conv at e99 => rhs; whnf
      have e100 := hFm.old 100 rfl
      conv at e100 => rhs; whnf
      have e101 := hFm.old 101 rfl
      conv at e101 => rhs; whnf
      have e102 := hFm.old 102 rfl
      conv at e102 => rhs; whnf
      have e103 := hFm.old 103 rfl
      conv at e103 => rhs; whnf
      have e104 := hFm.old 104 rfl
      conv at e104 => rhs; whnf
      have e105 := hFm.old 105 rfl
      conv at e105 => rhs; whnf
      have e106 := hFm.old 106 rfl
      conv at e106 => rhs; whnf
      have e116 := hFm.old 116 rfl
      conv at e116 => rhs; whnf
      have e117 := hFm.old 117 rfl
      conv at e117 => rhs; whnf
      have e118 := hFm.old 118 rfl
      conv at e118 => rhs; whnf
      have e119 := hFm.old 119 rfl
      conv at e119 => rhs; whnf
      have e120 := hFm.old 120 rfl
      conv at e120 => rhs; whnf
      have e121 := hFm.old 121 rfl
      conv at e121 => rhs; whnf
      have e122 := hFm.old 122 rfl
      conv at e122 => rhs; whnf
      have e123 := hFm.old 123 rfl
      conv at e123 => rhs; whnf
      have e124 := hFm.old 124 rfl
      conv at e124 => rhs; whnf
      have e125 := hFm.old 125 rfl
      conv at e125 => rhs; whnf
      have e126 := hFm.old 126 rfl
      conv at e126 => rhs; whnf
      have e127 := hFm.old 127 rfl
      conv at e127 => rhs; whnf
      have e128 := hFm.old 128 rfl
      conv at e128 => rhs; whnf
      have e129 := hFm.old 129 rfl
      conv at e129 => rhs; whnf
      have e130 := hFm.old 130 rfl
      conv at e130 => rhs; whnf
      have e131 := hFm.old 131 rfl
      conv at e131 => rhs; whnf
      have e132 := hFm.old 132 rfl
      conv at e132 => rhs; whnf
      have e133 := hFm.old 133 rfl
      conv at e133 => rhs; whnf
      have hsz := hFm.size
      have hdf := hFm.defers
      clear hd hFm
      obtain ⟨t, df⟩ := a
      simp only at hsz hdf
      subst hdf
      obtain ⟨x, hx⟩ : ∃ x : Nat → Value, ∀ i, t.getD i undef = x i := ⟨fun i => t.getD i undef, fun _ => rfl⟩
      have h22 := (hx 22).symm.trans e22
      have h23 := (hx 23).symm.trans e23
      have h0 := (hx 0).symm.trans e0
      have h1 := (hx 1).symm.trans e1
      have h2 := (hx 2).symm.trans e2
      have h3 := (hx 3).symm.trans e3
      have h4 := (hx 4).symm.trans e4
      have h5 := (hx 5).symm.trans e5
      have h6 := (hx 6).symm.trans e6
      have h7 := (hx 7).symm.trans e7
      have h8 := (hx 8).symm.trans e8
      have h9 := (hx 9).symm.trans e9
      have h10 := (hx 10).symm.trans e10
      have h11 := (hx 11).symm.trans e11
      have h12 := (hx 12).symm.trans e12
      have h13 := (hx 13).symm.trans e13
      have h14 := (hx 14).symm.trans e14
      have h15 := (hx 15).symm.trans e15
      have h16 := (hx 16).symm.trans e16
      have h17 := (hx 17).symm.trans e17
      have h18 := (hx 18).symm.trans e18
      have h19 := (hx 19).symm.trans e19
      have h20 := (hx 20).symm.trans e20
      have h21 := (hx 21).symm.trans e21
      have h24 := (hx 24).symm.trans e24
      have h25 := (hx 25).symm.trans e25
      have h26 := (hx 26).symm.trans e26
      have h27 := (hx 27).symm.trans e27
      have h28 := (hx 28).symm.trans e28
      have h29 := (hx 29).symm.trans e29
      have h30 := (hx 30).symm.trans e30
      have h31 := (hx 31).symm.trans e31
      have h32 := (hx 32).symm.trans e32
      have h33 := (hx 33).symm.trans e33
      have h34 := (hx 34).symm.trans e34
      have h35 := (hx 35).symm.trans e35
      have h36 := (hx 36).symm.trans e36
      have h37 := (hx 37).symm.trans e37
      have h38 := (hx 38).symm.trans e38
      have h39 := (hx 39).symm.trans e39
      have h40 := (hx 40).symm.trans e40
      have h41 := (hx 41).symm.trans e41
      have h42 := (hx 42).symm.trans e42
      have h43 := (hx 43).symm.trans e43
      have h44 := (hx 44).symm.trans e44
      have h45 := (hx 45).symm.trans e45
      have h46 := (hx 46).symm.trans e46
      have h47 := (hx 47).symm.trans e47
      have h48 := (hx 48).symm.trans e48
      have h49 := (hx 49).symm.trans e49
      have h50 := (hx 50).symm.trans e50
      have h51 := (hx 51).symm.trans e51
      have h52 := (hx 52).symm.trans e52
      have h53 := (hx 53).symm.trans e53
      have h54 := (hx 54).symm.trans e54
      have h55 := (hx 55).symm.trans e55
      have h56 := (hx 56).symm.trans e56
      have h57 := (hx 57).symm.trans e57
      have h58 := (hx 58).symm.trans e58
      have h59 := (hx 59).symm.trans e59
      have h60 := (hx 60).symm.trans e60
      have h61 := (hx 61).symm.trans e61
      have h62 := (hx 62).symm.trans e62
      have h63 := (hx 63).symm.trans e63
      have h64 := (hx 64).symm.trans e64
      have h65 := (hx 65).symm.trans e65
      have h66 := (hx 66).symm.trans e66
      have h67 := (hx 67).symm.trans e67
      have h68 := (hx 68).symm.trans e68
      have h69 := (hx 69).symm.trans e69
      have h70 := (hx 70).symm.trans e70
      have h71 := (hx 71).symm.trans e71
      have h72 := (hx 72).symm.trans e72
      have h73 := (hx 73).symm.trans e73
      have h74 := (hx 74).symm.trans e74
      have h75 := (hx 75).symm.trans e75
      have h76 := (hx 76).symm.trans e76
      have h77 := (hx 77).symm.trans e77
      have h78 := (hx 78).symm.trans e78
      have h79 := (hx 79).symm.trans e79
      have h80 := (hx 80).symm.trans e80
      have h81 := (hx 81).symm.trans e81
      have h82 := (hx 82).symm.trans e82
      have h83 := (hx 83).symm.trans e83
      have h84 := (hx 84).symm.trans e84
      have h85 := (hx 85).symm.trans e85
      have h86 := (hx 86).symm.trans e86
      have h87 := (hx 87).symm.trans e87
      have h88 := (hx 88).symm.trans e88
      have h89 := (hx 89).symm.trans e89
      have h90 := (hx 90).symm.trans e90
      have h91 := (hx 91).symm.trans e91
      have h92 := (hx 92).symm.trans e92
      have h93 := (hx 93).symm.trans e93
      have h94 := (hx 94).symm.trans e94
      have h95 := (hx 95).symm.trans e95
      have h96 := (hx 96).symm.trans e96
      have h97 := (hx 97).symm.trans e97
      have h98 := (hx 98).symm.trans e98
      have h99 := (hx 99).symm.trans e99
      have h100 := (hx 100).symm.trans e100
      have h101 := (hx 101).symm.trans e101
      have h102 := (hx 102).symm.trans e102
      have h103 := (hx 103).symm.trans e103
      have h104 := (hx 104).symm.trans e104
      have h105 := (hx 105).symm.trans e105
      have h106 := (hx 106).symm.trans e106
      have h116 := (hx 116).symm.trans e116
      have h117 := (hx 117).symm.trans e117
      have h118 := (hx 118).symm.trans e118
      have h119 := (hx 119).symm.trans e119
      have h120 := (hx 120).symm.trans e120
      have h121 := (hx 121).symm.trans e121
      have h122 := (hx 122).symm.trans e122
      have h123 := (hx 123).symm.trans e123
      have h124 := (hx 124).symm.trans e124
      have h125 := (hx 125).symm.trans e125
      have h126 := (hx 126).symm.trans e126
      have h127 := (hx 127).symm.trans e127
      have h128 := (hx 128).symm.trans e128
      have h129 := (hx 129).symm.trans e129
      have h130 := (hx 130).symm.trans e130
      have h131 := (hx 131).symm.trans e131
      have h132 := (hx 132).symm.trans e132
      have h133 := (hx 133).symm.trans e133
      have ht' : t = #[x 0, x 1, x 2, x 3, x 4, x 5, x 6, x 7, x 8, x 9, x 10, x 11, x 12, x 13, x 14, x 15, x 16, x 17, x 18, x 19, x 20, x 21, x 22, x 23, x 24, x 25, x 26, x 27, x 28, x 29, x 30, x 31, x 32, x 33, x 34, x 35, x 36, x 37, x 38, x 39, x 40, x 41, x 42, x 43, x 44, x 45, x 46, x 47, x 48, x 49, x 50, x 51, x 52, x 53, x 54, x 55, x 56, x 57, x 58, x 59, x 60, x 61, x 62, x 63, x 64, x 65, x 66, x 67, x 68, x 69, x 70, x 71, x 72, x 73, x 74, x 75, x 76, x 77, x 78, x 79, x 80, x 81, x 82, x 83, x 84, x 85, x 86, x 87, x 88, x 89, x 90, x 91, x 92, x 93, x 94, x 95, x 96, x 97, x 98, x 99, x 100, x 101, x 102, x 103, x 104, x 105, x 106, x 107, x 108, x 109, x 110, x 111, x 112, x 113, x 114, x 115, x 116, x 117, x 118, x 119, x 120, x 121, x 122, x 123, x 124, x 125, x 126, x 127, x 128, x 129, x 130, x 131, x 132, x 133] := frame_lit t 134 hsz x hx
      clear hx hsz hz e22 e23 e0 e1 e2 e3 e4 e5 e6 e7 e8 e9 e10 e11 e12 e13 e14 e15 e16 e17 e18 e19 e20 e21 e24 e25 e26 e27 e28 e29 e30 e31 e32 e33 e34 e35 e36 e37 e38 e39 e40 e41 e42 e43 e44 e45 e46 e47 e48 e49 e50 e51 e52 e53 e54 e55 e56 e57 e58 e59 e60 e61 e62 e63 e64 e65 e66 e67 e68 e69 e70 e71 e72 e73 e74 e75 e76 e77 e78 e79 e80 e81 e82 e83 e84 e85 e86 e87 e88 e89 e90 e91 e92 e93 e94 e95 e96 e97 e98 e99 e100 e101 e102 e103 e104 e105 e106 e116 e117 e118 e119 e120 e121 e122 e123 e124 e125 e126 e127 e128 e129 e130 e131 e132 e133
      subst ht'
      dsimp only
      rw [h22, h23, h0, h1, h2, h3, h4, h5, h6, h7, h8, h9, h10, h11, h12, h13, h14, h15, h16, h17, h18, h19, h20, h21, h24, h25, h26, h27, h28, h29, h30, h31, h32, h33, h34, h35, h36, h37, h38, h39, h40, h41, h42, h43, h44, h45, h46, h47, h48, h49, h50, h51, h52, h53, h54, h55, h56, h57, h58, h59, h60, h61, h62, h63, h64, h65, h66, h67, h68, h69, h70, h71, h72, h73, h74, h75, h76, h77, h78, h79, h80, h81, h82, h83, h84, h85, h86, h87, h88, h89, h90, h91, h92, h93, h94, h95, h96, h97, h98, h99, h100, h101, h102, h103, h104, h105, h106, h116, h117, h118, h119, h120, h121, h122, h123, h124, h125, h126, h127, h128, h129, h130, h131, h132, h133]
      clear h22 h23 h0 h1 h2 h3 h4 h5 h6 h7 h8 h9 h10 h11 h12 h13 h14 h15 h16 h17 h18 h19 h20 h21 h24 h25 h26 h27 h28 h29 h30 h31 h32 h33 h34 h35 h36 h37 h38 h39 h40 h41 h42 h43 h44 h45 h46 h47 h48 h49 h50 h51 h52 h53 h54 h55 h56 h57 h58 h59 h60 h61 h62 h63 h64 h65 h66 h67 h68 h69 h70 h71 h72 h73 h74 h75 h76 h77 h78 h79 h80 h81 h82 h83 h84 h85 h86 h87 h88 h89 h90 h91 h92 h93 h94 h95 h96 h97 h98 h99 h100 h101 h102 h103 h104 h105 h106 h116 h117 h118 h119 h120 h121 h122 h123 h124 h125 h126 h127 h128 h129 h130 h131 h132 h133
      have hb2 := from_drew hS
      replace hB := hB.trans (hb2.mono hB.size)
      replace hD := hD.later hb2
      replace hrd := hrd.later hb2
      replace hq := hq.later hb2
      clear hS hb2 f22 g22
      go_upto_region 15 with fail
      refine region_slots [some 117, some 118, some 119, some 120, some 121, some 122, some 116, some 123, some 124, some 24, none, some 25] [none, none, none, none, none, none, none, none, none, none, some 9, none] 134 (by kernel_rfl) (by kernel_rfl) rfl rfl ?_
      apply step_fix
      · intro a W Zs hS hFm hz hd
        have h15 := hFm.old 15 rfl
        conv at h15 => rhs; whnf
        replace h15 := ev_get hFm.size h15
        have hq := (hD.drew1.later hS).at
        unfold confBox at hq
        refine .inl ⟨wanted_none rfl _, fun K hK => ?_⟩
        have HK := Lib.hid hK
        clear hd hFm hK
        go_simp
        exact HK.out _ _ rfl (Below.refl _ _)
      simp only [List.nil_append, List.cons_append]
      apply step_fix
      · intro a W Zs hS hFm hz hd
        have h20 := hFm.old 20 rfl
        conv at h20 => rhs; whnf
        replace h20 := ev_get hFm.size h20
        refine .inl ⟨wanted_none rfl _, fun K hK => ?_⟩
        have HK := Lib.hid hK
        clear hd hFm hK
        go_simp
        exact HK.out _ _ rfl (Below.refl _ _)
      simp only [List.nil_append, List.cons_append]
      apply step_fix
      · intro a W Zs hS hFm hz hd
        have h21 := hFm.old 21 rfl
        conv at h21 => rhs; whnf
        replace h21 := ev_get hFm.size h21
        refine .inl ⟨wanted_none rfl _, fun K hK => ?_⟩
        have HK := Lib.hid hK
        clear hd hFm hK
        go_simp
        exact HK.out _ _ rfl (Below.refl _ _)
      simp only [List.nil_append, List.cons_append]
      apply step_fix
      · intro a W Zs hS hFm hz hd
        have h118 := ev_get hFm.size (hd 1 118 rfl rfl)
        have h119 := ev_get hFm.size (hd 2 119 rfl rfl)
        refine .inl ⟨wanted_none rfl _, fun K hK => ?_⟩
        have HK := Lib.hid hK
        clear hd hFm hK
        go_simp
        exact HK.out _ _ rfl (Below.refl _ _)
      simp only [List.nil_append, List.cons_append]
      apply step_fix
      · intro a W Zs hS hFm hz hd
        have h120 := ev_get hFm.size (hd 3 120 rfl rfl)
        have hq2 : W.cell? ⟨b20, j, none⟩ = some (.string ⟨l.toArray⟩) := by rw [(hq.drew1.later hS).at]; exact hl
        refine .inl ⟨wanted_none rfl _, fun K hK => ?_⟩
        have HK := Lib.hid hK
        clear hd hFm hK
        go_simp
        exact HK.out _ _ rfl (Below.refl _ _)
      simp only [List.nil_append, List.cons_append]
      refine step_of (rdF _ (p) (er)) (rdF_good _ _ _) ?_ ?_
      · intro a W Zs hS hFm hz hd
        have h117 := ev_get hFm.size (hd 0 117 rfl rfl)
        have h121 := ev_get hFm.size (hd 4 121 rfl rfl)
        refine .inl ⟨wanted_none rfl _, fun K hK => ?_⟩
        have HK := Lib.hid hK
        clear hd hFm hK
        go_simp
        refine (HR2.out _ (hrd.drew1.later hS)).mono ?_
        rintro e W' ⟨ra, rc, rfl, hr, hfr, hb⟩
        exact HK.out _ _ ⟨ra, rc, rfl, hr, hr.foot hfr⟩ hb
      simp only [List.nil_append, List.cons_append]
      refine step_of (rdF _ (p) (er)) (rdF_good _ _ _) ?_ ?_
      · intro a W Zs hS hFm hz hd
        obtain ⟨a122, c122, e122, r122, f122⟩ := hd 5 122 rfl rfl
        have h122 := ev_get hFm.size e122
        refine .inl ⟨wanted_none rfl _, fun K hK => ?_⟩
        have HK := Lib.hid hK
        clear hd hFm hK
        go_simp
        exact HK.out _ _ ⟨a122, c122, rfl, r122, ft_mono f122 (foot_dep 5 rfl rfl rfl)⟩ (Below.refl _ _)
      simp only [List.nil_append, List.cons_append]
      refine step_of (frF _ (p)) (frF_good _ _) ?_ ?_
      · intro a W Zs hS hFm hz hd
        obtain ⟨a116, c116, e116, r116, f116⟩ := hd 6 116 rfl rfl
        have h116 := ev_get hFm.size e116
        refine .inl ⟨wanted_none rfl _, fun K hK => ?_⟩
        have HK := Lib.hid hK
        clear hd hFm hK
        go_simp
        exact HK.out _ _ ⟨a116, c116, rfl, r116, ft_mono f116 (foot_dep 6 rfl rfl rfl)⟩ (Below.refl _ _)
      simp only [List.nil_append, List.cons_append]
      apply step_fix
      · intro a W Zs hS hFm hz hd
        obtain ⟨a116, c116, e116, r116, f116⟩ := hd 6 116 rfl rfl
        have h116 := ev_get hFm.size e116
        refine .inl ⟨wanted_none rfl _, fun K hK => ?_⟩
        have HK := Lib.hid hK
        clear hd hFm hK
        go_simp
        exact HK.out _ _ rfl (Below.refl _ _)
      simp only [List.nil_append, List.cons_append]
      refine step_of (boxF _ 29 6) (boxF_good _ _ _) ?_ ?_
      · intro a W Zs hS hFm hz hd
        refine .inl ⟨wanted_none rfl _, fun K hK => ?_⟩
        have HK := Lib.hid hK
        clear hd hFm hK
        go_simp
        exact HK.out _ _ ⟨_, _, rfl, rfl, Blk.new _ _ _, .inl ⟨Nat.le_refl _, by simp⟩⟩ (alloc_below _ _)
      simp only [List.nil_append, List.cons_append]
      refine step_of (frBoxF _ (p)) (frBoxF_good _ _) ?_ ?_
      · intro a W Zs hS hFm hz hd hap
        obtain ⟨b24, cs24, e24, n24, q24, z24⟩ := hd 9 24 rfl rfl
        have h24 := ev_get hFm.size e24
        obtain ⟨a123, c123, e123, r123, f123⟩ := hd 7 123 rfl rfl
        have h123 := ev_get hFm.size e123
        have hB0 := (hz 9 _ rfl z24).1
        obtain ⟨u0, u1, u2, u3, u4, u5, rfl⟩ := arr6 n24
        have hq := q24.at
        have hfz := q24.frozen
        refine ⟨wanted_none rfl _, b24, z24, fun K hK => ?_⟩
        have HK := Lib.hid hK
        clear hd hFm hK
        go_simp
        exact HK.out undef _ (Only.fill6 _ _ _ _ _ _ _ _) (fun d hd' => by injection hd' with hd'; subst hd'; exact ⟨⟨b24, a123, c123, e24, q24.fill6 _ _ _ _ _ _, r123.agree f123 (store_apart (Only.fill6 W b24 _ _ _ _ _ _) hB0 z24 hap 7 rfl (by decide)), .inr (.inl rfl), ft_mono f123 (foot_depS 7 rfl rfl rfl)⟩, ⟨b24, _, e24, rfl, q24.fill6 _ _ _ _ _ _, z24⟩⟩)
      simp only [List.nil_append, List.cons_append]
      apply step_fix
      · intro a W Zs hS hFm hz hd
        have h124 := ev_get hFm.size (hd 8 124 rfl rfl)
        refine .inl ⟨wanted_none rfl _, fun K hK => ?_⟩
        have HK := Lib.hid hK
        clear hd hFm hK
        go_simp
        exact HK.out _ _ rfl (Below.refl _ _)
      simp only [List.nil_append, List.cons_append]
      intro a w6 Zs hS hFm hz hd
      obtain ⟨b24, a24, c24, e24, q24, r24, f24, g24⟩ := hd 10 24 rfl
      have e25 := hd 11 25 rfl
      have e0 := hFm.old 0 rfl
      conv at e0 => rhs; whnf
      have e1 := hFm.old 1 rfl
      conv at e1 => rhs; whnf
      have e2 := hFm.old 2 rfl
      conv at e2 => rhs; whnf
      have e3 := hFm.old 3 rfl
      conv at e3 => rhs; whnf
      have e4 := hFm.old 4 rfl
      conv at e4 => rhs; whnf
      have e5 := hFm.old 5 rfl
      conv at e5 => rhs; whnf
      have e6 := hFm.old 6 rfl
      conv at e6 => rhs; whnf
      have e7 := hFm.old 7 rfl
      conv at e7 => rhs; whnf
      have e8 := hFm.old 8 rfl
      conv at e8 => rhs; whnf
      have e9 := hFm.old 9 rfl
      conv at e9 => rhs; whnf
      have e10 := hFm.old 10 rfl
      conv at e10 => rhs; whnf
      have e11 := hFm.old 11 rfl
      conv at e11 => rhs; whnf
      have e12 := hFm.old 12 rfl
      conv at e12 => rhs; whnf
      have e13 := hFm.old 13 rfl
      conv at e13 => rhs; whnf
      have e14 := hFm.old 14 rfl
      conv at e14 => rhs; whnf
      have e15 := hFm.old 15 rfl
      conv at e15 => rhs; whnf
      have e16 := hFm.old 16 rfl
      conv at e16 => rhs; whnf
      have e17 := hFm.old 17 rfl
      conv at e17 => rhs; whnf
      have e18 := hFm.old 18 rfl
      conv at e18 => rhs; whnf
      have e19 := hFm.old 19 rfl
      conv at e19 => rhs; whnf
      have e20 := hFm.old 20 rfl
      conv at e20 => rhs; whnf
      have e21 := hFm.old 21 rfl
      conv at e21 => rhs; whnf
      have e22 := hFm.old 22 rfl
      conv at e22 => rhs; whnf
      have e23 := hFm.old 23 rfl
      conv at e23 => rhs; whnf
      have e26 := hFm.old 26 rfl
      conv at e26 => rhs; whnf
      have e27 := hFm.old 27 rfl
      conv at e27 => rhs; whnf
      have e28 := hFm.old 28 rfl
      conv at e28 => rhs; whnf
      have e29 := hFm.old 29 rfl
      conv at e29 => rhs; whnf
      have e30 := hFm.old 30 rfl
      conv at e30 => rhs; whnf
      have e31 := hFm.old 31 rfl
      conv at e31 => rhs; whnf
      have e32 := hFm.old 32 rfl
      conv at e32 => rhs; whnf
      have e33 := hFm.old 33 rfl
      conv at e33 => rhs; whnf
      have e34 := hFm.old 34 rfl
      conv at e34 => rhs; whnf
      have e35 := hFm.old 35 rfl
      conv at e35 => rhs; whnf
      have e36 := hFm.old 36 rfl
      conv at e36 => rhs; whnf
      have e37 := hFm.old 37 rfl
      conv at e37 => rhs; whnf
      have e38 := hFm.old 38 rfl
      conv at e38 => rhs; whnf
      have e39 := hFm.old 39 rfl
      conv at e39 => rhs; whnf
      have e40 := hFm.old 40 rfl
      conv at e40 => rhs; whnf
      have e41 := hFm.old 41 rfl
      conv at e41 => rhs; whnf
      have e42 := hFm.old 42 rfl
      conv at e42 => rhs; whnf
      have e43 := hFm.old 43 rfl
      conv at e43 => rhs; whnf
      have e44 := hFm.old 44 rfl
      conv at e44 => rhs; whnf
      have e45 := hFm.old 45 rfl
      conv at e45 => rhs; whnf
      have e46 := hFm.old 46 rfl
      conv at e46 => rhs; whnf
      have e47 := hFm.old 47 rfl
      conv at e47 => rhs; whnf
      have e48 := hFm.old 48 rfl
      conv at e48 => rhs; whnf
      have e49 := hFm.old 49 rfl
      conv at e49 => rhs; whnf
      have e50 := hFm.old 50 rfl
      conv at e50 => rhs; whnf
      have e51 := hFm.old 51 rfl
      conv at e51 => rhs; whnf
      have e52 := hFm.old 52 rfl
      conv at e52 => rhs; whnf
      have e53 := hFm.old 53 rfl
      conv at e53 => rhs; whnf
      have e54 := hFm.old 54 rfl
      conv at e54 => rhs; whnf
      have e55 := hFm.old 55 rfl
      conv at e55 => rhs; whnf
      have e56 := hFm.old 56 rfl
      conv at e56 => rhs; whnf
      have e57 := hFm.old 57 rfl
      conv at e57 => rhs; whnf
      have e58 := hFm.old 58 rfl
      conv at e58 => rhs; whnf
      have e59 := hFm.old 59 rfl
      conv at e59 => rhs; whnf
      have e60 := hFm.old 60 rfl
      conv at e60 => rhs; whnf
      have e61 := hFm.old 61 rfl
      conv at e61 => rhs; whnf
      have e62 := hFm.old 62 rfl
      conv at e62 => rhs; whnf
      have e63 := hFm.old 63 rfl
      conv at e63 => rhs; whnf
      have e64 := hFm.old 64 rfl
      conv at e64 => rhs; whnf
      have e65 := hFm.old 65 rfl
      conv at e65 => rhs; whnf
      have e66 := hFm.old 66 rfl
      conv at e66 => rhs; whnf
      have e67 := hFm.old 67 rfl
      conv at e67 => rhs; whnf
      have e68 := hFm.old 68 rfl
      conv at e68 => rhs; whnf
      have e69 := hFm.old 69 rfl
      conv at e69 => rhs; whnf
      have e70 := hFm.old 70 rfl
      conv at e70 => rhs; whnf
      have e71 := hFm.old 71 rfl
      conv at e71 => rhs; whnf
      have e72 := hFm.old 72 rfl
      conv at e72 => rhs; whnf
      have e73 := hFm.old 73 rfl
      conv at e73 => rhs; whnf
      have e74 := hFm.old 74 rfl
      conv at e74 => rhs; whnf
      have e75 := hFm.old 75 rfl
      conv at e75 => rhs; whnf
      have e76 := hFm.old 76 rfl
      conv at e76 => rhs; whnf
      have e77 := hFm.old 77 rfl
      conv at e77 => rhs; whnf
      have e78 := hFm.old 78 rfl
      conv at e78 => rhs; whnf
      have e79 := hFm.old 79 rfl
      conv at e79 => rhs; whnf
      have e80 := hFm.old 80 rfl
      conv at e80 => rhs; whnf
      have e81 := hFm.old 81 rfl
      conv at e81 => rhs; whnf
      have e82 := hFm.old 82 rfl
      conv at e82 => rhs; whnf
      have e83 := hFm.old 83 rfl
      conv at e83 => rhs; whnf
      have e84 := hFm.old 84 rfl
      conv at e84 => rhs; whnf
      have e85 := hFm.old 85 rfl
      conv at e85 => rhs; whnf
      have e86 := hFm.old 86 rfl
      conv at e86 => rhs; whnf
      have e87 := hFm.old 87 rfl
      conv at e87 => rhs; whnf
      have e88 := hFm.old 88 rfl
      conv at e88 => rhs; whnf
      have e89 := hFm.old 89 rfl
      conv at e89 => rhs; whnf
      have e90 := hFm.old 90 rfl
      conv at e90 => rhs; whnf
      have e91 := hFm.old 91 rfl
      conv at e91 => rhs; whnf
      have e92 := hFm.old 92 rfl
      conv at e92 => rhs; whnf
      have e93 := hFm.old 93 rfl
      conv at e93 => rhs; whnf
      have e94 := hFm.old 94 rfl
      conv at e94 => rhs; whnf
      have e95 := hFm.old 95 rfl
      conv at e95 => rhs; whnf
      have e96 := hFm.old 96 rfl
      conv at e96 => rhs; whnf
      have e97 := hFm.old 97 rfl
      conv at e97 => rhs; whnf
      have e98 := hFm.old 98 rfl
      conv at e98 => rhs; whnf
      have e99 := hFm.old 99 rfl
      conv at e99 => rhs; whnf
      have e100 := hFm.old 100 rfl
      conv at e100 => rhs; whnf
      have e101 := hFm.old 101 rfl
      conv at e101 => rhs; whnf
      have e102 := hFm.old 102 rfl
      conv at e102 => rhs; whnf
      have e103 := hFm.old 103 rfl
      conv at e103 => rhs; whnf
      have e104 := hFm.old 104 rfl
      conv at e104 => rhs; whnf
      have e105 := hFm.old 105 rfl
      conv at e105 => rhs; whnf
      have e106 := hFm.old 106 rfl
      conv at e106 => rhs; whnf
      have e107 := hFm.old 107 rfl
      conv at e107 => rhs; whnf
      have e108 := hFm.old 108 rfl
      conv at e108 => rhs; whnf
      have e109 := hFm.old 109 rfl
      conv at e109 => rhs; whnf
      have e110 := hFm.old 110 rfl
      conv at e110 => rhs; whnf
      have e111 := hFm.old 111 rfl
      conv at e111 => rhs; whnf
      have e112 := hFm.old 112 rfl
      conv at e112 => rhs; whnf
      have e113 := hFm.old 113 rfl
      conv at e113 => rhs; whnf
      have e114 := hFm.old 114 rfl
      conv at e114 => rhs; whnf
      have e115 := hFm.old 115 rfl
      conv at e115 => rhs; whnf
      have e125 := hFm.old 125 rfl
      conv at e125 => rhs; whnf
      have e126 := hFm.old 126 rfl
      conv at e126 => rhs; whnf
      have e127 := hFm.old 127 rfl
      conv at e127 => rhs; whnf
      have e128 := hFm.old 128 rfl
      conv at e128 => rhs; whnf
      have e129 := hFm.old 129 rfl
      conv at e129 => rhs; whnf
      have e130 := hFm.old 130 rfl
      conv at e130 => rhs; whnf
      have e131 := hFm.old 131 rfl
      conv at e131 => rhs; whnf
      have e132 := hFm.old 132 rfl
      conv at e132 => rhs; whnf
      have e133 := hFm.old 133 rfl
      conv at e133 => rhs; whnf
      have hsz := hFm.size
      have hdf := hFm.defers
      clear hd hFm
      obtain ⟨t, df⟩ := a
      simp only at hsz hdf
      subst hdf
      obtain ⟨x, hx⟩ : ∃ x : Nat → Value, ∀ i, t.getD i undef = x i := ⟨fun i => t.getD i undef, fun _ => rfl⟩
      have h24 := (hx 24).symm.trans e24
      have h25 := (hx 25).symm.trans e25
      have h0 := (hx 0).symm.trans e0
      have h1 := (hx 1).symm.trans e1
      have h2 := (hx 2).symm.trans e2
      have h3 := (hx 3).symm.trans e3
      have h4 := (hx 4).symm.trans e4
      have h5 := (hx 5).symm.trans e5
      have h6 := (hx 6).symm.trans e6
      have h7 := (hx 7).symm.trans e7
      have h8 := (hx 8).symm.trans e8
      have h9 := (hx 9).symm.trans e9
      have h10 := (hx 10).symm.trans e10
      have h11 := (hx 11).symm.trans e11
      have h12 := (hx 12).symm.trans e12
      have h13 := (hx 13).symm.trans e13
      have h14 := (hx 14).symm.trans e14
      have h15 := (hx 15).symm.trans e15
      have h16 := (hx 16).symm.trans e16
      have h17 := (hx 17).symm.trans e17
      have h18 := (hx 18).symm.trans e18
      have h19 := (hx 19).symm.trans e19
      have h20 := (hx 20).symm.trans e20
      have h21 := (hx 21).symm.trans e21
      have h22 := (hx 22).symm.trans e22
      have h23 := (hx 23).symm.trans e23
      have h26 := (hx 26).symm.trans e26
      have h27 := (hx 27).symm.trans e27
      have h28 := (hx 28).symm.trans e28
      have h29 := (hx 29).symm.trans e29
      have h30 := (hx 30).symm.trans e30
      have h31 := (hx 31).symm.trans e31
      have h32 := (hx 32).symm.trans e32
      have h33 := (hx 33).symm.trans e33
      have h34 := (hx 34).symm.trans e34
      have h35 := (hx 35).symm.trans e35
      have h36 := (hx 36).symm.trans e36
      have h37 := (hx 37).symm.trans e37
      have h38 := (hx 38).symm.trans e38
      have h39 := (hx 39).symm.trans e39
      have h40 := (hx 40).symm.trans e40
      have h41 := (hx 41).symm.trans e41
      have h42 := (hx 42).symm.trans e42
      have h43 := (hx 43).symm.trans e43
      have h44 := (hx 44).symm.trans e44
      have h45 := (hx 45).symm.trans e45
      have h46 := (hx 46).symm.trans e46
      have h47 := (hx 47).symm.trans e47
      have h48 := (hx 48).symm.trans e48
      have h49 := (hx 49).symm.trans e49
      have h50 := (hx 50).symm.trans e50
      have h51 := (hx 51).symm.trans e51
      have h52 := (hx 52).symm.trans e52
      have h53 := (hx 53).symm.trans e53
      have h54 := (hx 54).symm.trans e54
      have h55 := (hx 55).symm.trans e55
      have h56 := (hx 56).symm.trans e56
      have h57 := (hx 57).symm.trans e57
      have h58 := (hx 58).symm.trans e58
      have h59 := (hx 59).symm.trans e59
      have h60 := (hx 60).symm.trans e60
      have h61 := (hx 61).symm.trans e61
      have h62 := (hx 62).symm.trans e62
      have h63 := (hx 63).symm.trans e63
      have h64 := (hx 64).symm.trans e64
      have h65 := (hx 65).symm.trans e65
      have h66 := (hx 66).symm.trans e66
      have h67 := (hx 67).symm.trans e67
      have h68 := (hx 68).symm.trans e68
      have h69 := (hx 69).symm.trans e69
      have h70 := (hx 70).symm.trans e70
      have h71 := (hx 71).symm.trans e71
      have h72 := (hx 72).symm.trans e72
      have h73 := (hx 73).symm.trans e73
      have h74 := (hx 74).symm.trans e74
      have h75 := (hx 75).symm.trans e75
      have h76 := (hx 76).symm.trans e76
      have h77 := (hx 77).symm.trans e77
      have h78 := (hx 78).symm.trans e78
      have h79 := (hx 79).symm.trans e79
      have h80 := (hx 80).symm.trans e80
      have h81 := (hx 81).symm.trans e81
      have h82 := (hx 82).symm.trans e82
      have h83 := (hx 83).symm.trans e83
      have h84 := (hx 84).symm.trans e84
      have h85 := (hx 85).symm.trans e85
      have h86 := (hx 86).symm.trans e86
      have h87 := (hx 87).symm.trans e87
      have h88 := (hx 88).symm.trans e88
      have h89 := (hx 89).symm.trans e89
      have h90 := (hx 90).symm.trans e90
      have h91 := (hx 91).symm.trans e91
      have h92 := (hx 92).symm.trans e92
      have h93 := (hx 93).symm.trans e93
      have h94 := (hx 94).symm.trans e94
      have h95 := (hx 95).symm.trans e95
      have h96 := (hx 96).symm.trans e96
      have h97 := (hx 97).symm.trans e97
      have h98 := (hx 98).symm.trans e98
      have h99 := (hx 99).symm.trans e99
      have h100 := (hx 100).symm.trans e100
      have h101 := (hx 101).symm.trans e101
      have h102 := (hx 102).symm.trans e102
      have h103 := (hx 103).symm.trans e103
      have h104 := (hx 104).symm.trans e104
      have h105 := (hx 105).symm.trans e105
      have h106 := (hx 106).symm.trans e106
      have h107 := (hx 107).symm.trans e107
      have h108 := (hx 108).symm.trans e108
      have h109 := (hx 109).symm.trans e109
      have h110 := (hx 110).symm.trans e110
      have h111 := (hx 111).symm.trans e111
      have h112 := (hx 112).symm.trans e112
      have h113 := (hx 113).symm.trans e113
      have h114 := (hx 114).symm.trans e114
      have h115 := (hx 115).symm.trans e115
      have h125 := (hx 125).symm.trans e125
      have h126 := (hx 126).symm.trans e126
      have h127 := (hx 127).symm.trans e127
      have h128 := (hx 128).symm.trans e128
      have h129 := (hx 129).symm.trans e129
      have h130 := (hx 130).symm.trans e130
      have h131 := (hx 131).symm.trans e131
      have h132 := (hx 132).symm.trans e132
      have h133 := (hx 133).symm.trans e133
      have ht' : t = #[x 0, x 1, x 2, x 3, x 4, x 5, x 6, x 7, x 8, x 9, x 10, x 11, x 12, x 13, x 14, x 15, x 16, x 17, x 18, x 19, x 20, x 21, x 22, x 23, x 24, x 25, x 26, x 27, x 28, x 29, x 30, x 31, x 32, x 33, x 34, x 35, x 36, x 37, x 38, x 39, x 40, x 41, x 42, x 43, x 44, x 45, x 46, x 47, x 48, x 49, x 50, x 51, x 52, x 53, x 54, x 55, x 56, x 57, x 58, x 59, x 60, x 61, x 62, x 63, x 64, x 65, x 66, x 67, x 68, x 69, x 70, x 71, x 72, x 73, x 74, x 75, x 76, x 77, x 78, x 79, x 80, x 81, x 82, x 83, x 84, x 85, x 86, x 87, x 88, x 89, x 90, x 91, x 92, x 93, x 94, x 95, x 96, x 97, x 98, x 99, x 100, x 101, x 102, x 103, x 104, x 105, x 106, x 107, x 108, x 109, x 110, x 111, x 112, x 113, x 114, x 115, x 116, x 117, x 118, x 119, x 120, x 121, x 122, x 123, x 124, x 125, x 126, x 127, x 128, x 129, x 130, x 131, x 132, x 133] := frame_lit t 134 hsz x hx
      clear hx hsz hz e24 e25 e0 e1 e2 e3 e4 e5 e6 e7 e8 e9 e10 e11 e12 e13 e14 e15 e16 e17 e18 e19 e20 e21 e22 e23 e26 e27 e28 e29 e30 e31 e32 e33 e34 e35 e36 e37 e38 e39 e40 e41 e42 e43 e44 e45 e46 e47 e48 e49 e50 e51 e52 e53 e54 e55 e56 e57 e58 e59 e60 e61 e62 e63 e64 e65 e66 e67 e68 e69 e70 e71 e72 e73 e74 e75 e76 e77 e78 e79 e80 e81 e82 e83 e84 e85 e86 e87 e88 e89 e90 e91 e92 e93 e94 e95 e96 e97 e98 e99 e100 e101 e102 e103 e104 e105 e106 e107 e108 e109 e110 e111 e112 e113 e114 e115 e125 e126 e127 e128 e129 e130 e131 e132 e133
      subst ht'
      dsimp only
      rw [h24, h25, h0, h1, h2, h3, h4, h5, h6, h7, h8, h9, h10, h11, h12, h13, h14, h15, h16, h17, h18, h19, h20, h21, h22, h23, h26, h27, h28, h29, h30, h31, h32, h33, h34, h35, h36, h37, h38, h39, h40, h41, h42, h43, h44, h45, h46, h47, h48, h49, h50, h51, h52, h53, h54, h55, h56, h57, h58, h59, h60, h61, h62, h63, h64, h65, h66, h67, h68, h69, h70, h71, h72, h73, h74, h75, h76, h77, h78, h79, h80, h81, h82, h83, h84, h85, h86, h87, h88, h89, h90, h91, h92, h93, h94, h95, h96, h97, h98, h99, h100, h101, h102, h103, h104, h105, h106, h107, h108, h109, h110, h111, h112, h113, h114, h115, h125, h126, h127, h128, h129, h130, h131, h132, h133]
      clear h24 h25 h0 h1 h2 h3 h4 h5 h6 h7 h8 h9 h10 h11 h12 h13 h14 h15 h16 h17 h18 h19 h20 h21 h22 h23 h26 h27 h28 h29 h30 h31 h32 h33 h34 h35 h36 h37 h38 h39 h40 h41 h42 h43 h44 h45 h46 h47 h48 h49 h50 h51 h52 h53 h54 h55 h56 h57 h58 h59 h60 h61 h62 h63 h64 h65 h66 h67 h68 h69 h70 h71 h72 h73 h74 h75 h76 h77 h78 h79 h80 h81 h82 h83 h84 h85 h86 h87 h88 h89 h90 h91 h92 h93 h94 h95 h96 h97 h98 h99 h100 h101 h102 h103 h104 h105 h106 h107 h108 h109 h110 h111 h112 h113 h114 h115 h125 h126 h127 h128 h129 h130 h131 h132 h133
      have hb2 := from_drew hS
      replace hB := hB.trans (hb2.mono hB.size)
      replace hD := hD.later hb2
      replace hrd := hrd.later hb2
      replace hq := hq.later hb2
      replace q22 := q22.later hb2
      replace r22 := r22.later hb2
      clear hS hb2 f24 g24
      have HS := Lib.hid (rSame5_any p p a22 a24 c22 c24 w6 r22 r24)
      rw [decide_eq_true (rfl : p = p)] at HS
      have qX := q22.at
      unfold frBox at qX
      have qY := q24.at
      unfold frBox at qY
      go_wp2_with fail
      refine HS.out.mono ?_
      rintro e w7 ⟨rfl, hb⟩
      go_wp2
      go_roundw
      case rel => exact ⟨j + 1, by omega, by go_num, hB.trans (hb.mono hB.size), hD.later hb, hq.later hb, hrd.later hb⟩
      case measure => simp [intOf]; omega
    · have d1 : decide ((j : Int) < 8) = false := by simp; omega
      have d2 : decide (j < 8) = false := by simp; omega
      go_wp2
      go_ret
      exact ⟨rfl, hB⟩

end Go.Proofs.Ytafcjdcmbklfkaa
