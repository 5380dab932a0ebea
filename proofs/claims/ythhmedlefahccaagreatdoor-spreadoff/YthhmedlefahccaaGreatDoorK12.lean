/-
  Contracts of package fault, fifth part: what a locus emits.
-/
import Derived.Test.YthhmedlefahccaaGreatDoorK11
import Derived.Test.YthhmedlefahccaaGreatDoorK10
import Derived.Test.YthhmedlefahccaaGreatDoorK9
import Derived.Test.YthhmedlefahccaaGreatDoorK8
namespace Go.Proofs.YthhmedlefahccaaGreatDoor
open Go.RowKit Plait
set_option maxRecDepth 100000
set_option linter.unusedVariables false
set_option linter.unusedSimpArgs false

set_option maxHeartbeats 1600000 in
theorem ldataOf_any (c : Cf) (ca : Option Addr) (cc : Nat) (r s : Int) (b : List UInt8) (w : World) (hc : c.Ok) (r0 : 0 ≤ r) (r1 : r ≤ 1099511627776) (hb : b.length ≤ 1048576) :
    Calls Tryz.prog 123 #[.agg #[.int .i64 c.N, .int .i64 c.Pi, .int .i64 c.E, .int .i64 c.G, .int .i64 c.F, .slice ca c.P.length cc], .int .i64 r, .int .i64 s, .string ⟨b.toArray⟩] w (FrRet (dataF c r s b) w) := by
  have hB0 : Below w.heap.size w ((w.alloc (.cells #[.int .i64 c.N, .int .i64 c.Pi, .int .i64 c.E, .int .i64 c.G, .int .i64 c.F, .slice ca c.P.length cc] 24)).alloc (.cells zeroBox 32)) := (alloc_below w _).alloc (by simp) _
  have hC0 : Blk ((w.alloc (.cells #[.int .i64 c.N, .int .i64 c.Pi, .int .i64 c.E, .int .i64 c.G, .int .i64 c.F, .slice ca c.P.length cc] 24)).alloc (.cells zeroBox 32)) w.heap.size 24 (confBox c ca cc) := (Blk.new w _ _).alloc _
  have hZ0 : Blk ((w.alloc (.cells #[.int .i64 c.N, .int .i64 c.Pi, .int .i64 c.E, .int .i64 c.G, .int .i64 c.F, .slice ca c.P.length cc] 24)).alloc (.cells zeroBox 32)) (w.heap.size + 1) 32 zeroBox := Blk.newAt _ _ (by simp)
  have hs0 : ((w.alloc (.cells #[.int .i64 c.N, .int .i64 c.Pi, .int .i64 c.E, .int .i64 c.G, .int .i64 c.F, .slice ca c.P.length cc] 24)).alloc (.cells zeroBox 32)).heap.size = w.heap.size + 2 := by simp
  obtain ⟨f, e, hfe⟩ : ∃ f e, readF c b = (f, e) := ⟨_, _, rfl⟩
  have HR := Lib.hid (fun W => fRead_at c ca cc b W hc hb f e hfe)
  have HW := Lib.hid (fun W => lfresh_any c ca cc r s W hc r0 r1)
  have HD : dataF c r s b = if e = 0 ∧ f.K = 3 then f else freshF c r s := by unfold dataF; rw [hfe]
  have HD2 := Lib.hid HD
  clear HD hfe
  unfold zeroBox at hB0 hC0 hs0
  conv at hZ0 => arg 1; unfold zeroBox
  go_enter Tryz.func123, Tryz.ntmps123
  go_wp2_with fail
  refine (HR.out _).mono ?_
  rintro en wm ⟨fa, fc, rfl, hrf, hff, hb1⟩
  have hB := hB0.trans (hb1.mono hB0.size)
  have hC := hC0.later hb1
  have hZ := hZ0.later hb1
  have hff2 : ∀ x, fa = some x → w.heap.size + 2 ≤ x.block := fun x hx => by have := hff x hx; omega
  clear hb1 hff hB0 hC0 hZ0 hs0
  replace hC := hC.alloc (.cells #[.int .i64 f.K, .int .i64 f.R, .int .i64 f.S, .int .i64 f.P.K, .int .i64 f.P.V, .slice fa f.E.length fc] 32)
  replace hZ := hZ.alloc (.cells #[.int .i64 f.K, .int .i64 f.R, .int .i64 f.S, .int .i64 f.P.K, .int .i64 f.P.V, .slice fa f.E.length fc] 32)
  replace hrf := hrf.alloc (.cells #[.int .i64 f.K, .int .i64 f.R, .int .i64 f.S, .int .i64 f.P.K, .int .i64 f.P.V, .slice fa f.E.length fc] 32)
  have hG : Blk (wm.alloc (.cells #[.int .i64 f.K, .int .i64 f.R, .int .i64 f.S, .int .i64 f.P.K, .int .i64 f.P.V, .slice fa f.E.length fc] 32)) wm.heap.size 32 (frBox f fa fc) := Blk.new wm _ _
  replace hB := hB.alloc hB.size (.cells #[.int .i64 f.K, .int .i64 f.R, .int .i64 f.S, .int .i64 f.P.K, .int .i64 f.P.V, .slice fa f.E.length fc] 32)
  go_upto_region 2 with fail
  have hQg := hG.at
  unfold frBox at hQg
  have hQc := hC.at
  unfold confBox at hQc
  have hQz := hZ.at
  unfold zeroBox at hQz
  have hFz := hZ.frozen
  by_cases he : e = 0
  · have d1 : (e == 0) = true := by simpa using he
    by_cases hK : f.K = 3
    · have d2 : (f.K == 3) = true := by simpa using hK
      have HE := Lib.hid (show dataF c r s b = f by rw [HD2.out, if_pos ⟨he, hK⟩])
      clear he hK HD2 HR HW
      go_wp2
      obtain ⟨kk, hb2, hr2⟩ := fr_end f w (wm.alloc (.cells #[.int .i64 f.K, .int .i64 f.R, .int .i64 f.S, .int .i64 f.P.K, .int .i64 f.P.V, .slice fa f.E.length fc] 32)) (w.heap.size + 1) fa fc hB (by omega) hZ hrf (.inr fun x hx => by have := hff2 x hx; omega)
      have q := kk.at
      unfold frBox at q
      simp at q
      refine bodyPost_ret (v := .agg #[.int .i64 f.K, .int .i64 f.R, .int .i64 f.S, .int .i64 f.P.K, .int .i64 f.P.V, .slice fa f.E.length fc]) (by simp [results, Tryz.results123, go_sem, q]) rfl ?_
      rw [HE.out]
      exact ⟨fa, fc, rfl, hr2, fun x hx => by have := hff2 x hx; omega, hb2⟩
    · have d2 : (f.K == 3) = false := by simpa using hK
      have HE := Lib.hid (show dataF c r s b = freshF c r s by rw [HD2.out, if_neg (by simp [hK])])
      clear he hK HD2 HR
      generalize freshF c r s = g at *
      generalize wm.alloc (.cells #[.int .i64 f.K, .int .i64 f.R, .int .i64 f.S, .int .i64 f.P.K, .int .i64 f.P.V, .slice fa f.E.length fc] 32) = wl at *
      go_wp2_with fail
      refine (HW.out _).mono ?_
      rintro en wk ⟨ga, gc, rfl, hrg, hfg, hb1⟩
      clear hQz hFz hQc hQg
      have hlt := hZ.lt
      replace hB := hB.trans (hb1.mono hB.size)
      replace hZ := hZ.later hb1
      have hQz := hZ.at
      unfold zeroBox at hQz
      have hFz := hZ.frozen
      go_wp2
      obtain ⟨kk, hb2, hr2⟩ := fr_end g w wk (w.heap.size + 1) ga gc hB (by omega) hZ hrg (.inr fun x hx => by have := hfg x hx; omega)
      have q := kk.at
      unfold frBox at q
      simp at q
      refine bodyPost_ret (v := .agg #[.int .i64 g.K, .int .i64 g.R, .int .i64 g.S, .int .i64 g.P.K, .int .i64 g.P.V, .slice ga g.E.length gc]) (by simp [results, Tryz.results123, go_sem, q]) rfl ?_
      rw [HE.out]
      exact ⟨ga, gc, rfl, hr2, fun x hx => by have := hfg x hx; omega, hb2⟩
  · have d1 : (e == 0) = false := by simpa using he
    have HE := Lib.hid (show dataF c r s b = freshF c r s by rw [HD2.out, if_neg (by simp [he])])
    clear he HD2 HR
    generalize freshF c r s = g at *
    generalize wm.alloc (.cells #[.int .i64 f.K, .int .i64 f.R, .int .i64 f.S, .int .i64 f.P.K, .int .i64 f.P.V, .slice fa f.E.length fc] 32) = wl at *
    go_wp2_with fail
    refine (HW.out _).mono ?_
    rintro en wk ⟨ga, gc, rfl, hrg, hfg, hb1⟩
    clear hQz hFz hQc hQg
    have hlt := hZ.lt
    replace hB := hB.trans (hb1.mono hB.size)
    replace hZ := hZ.later hb1
    have hQz := hZ.at
    unfold zeroBox at hQz
    have hFz := hZ.frozen
    go_wp2
    obtain ⟨kk, hb2, hr2⟩ := fr_end g w wk (w.heap.size + 1) ga gc hB (by omega) hZ hrg (.inr fun x hx => by have := hfg x hx; omega)
    have q := kk.at
    unfold frBox at q
    simp at q
    refine bodyPost_ret (v := .agg #[.int .i64 g.K, .int .i64 g.R, .int .i64 g.S, .int .i64 g.P.K, .int .i64 g.P.V, .slice ga g.E.length gc]) (by simp [results, Tryz.results123, go_sem, q]) rfl ?_
    rw [HE.out]
    exact ⟨ga, gc, rfl, hr2, fun x hx => by have := hfg x hx; omega, hb2⟩

theorem clean_len (l : List UInt8) : (clean l).length ≤ l.length := by unfold clean; simp; omega

theorem lturned_any (b : List UInt8) (n : Int) (w : World) (hb : b.length ≤ 1048576) :
    Calls Tryz.prog 122 #[.string ⟨b.toArray⟩, .int .i64 n] w fun e w' => e = .returned (.string ⟨(turnedL b n).toArray⟩) ∧ Below w.heap.size w w' := by
  by_cases h0 : b = []
  · subst h0
    have HF := Lib.hid (show turnedL [] n = [] from rfl)
    have d1 : (([] : List UInt8) == []) = true := rfl
    go_enter Tryz.func122, Tryz.ntmps122
    go_wp2
    go_ret
    exact ⟨ret_str HF.out.symm, Below.refl _ _⟩
  · have HF := Lib.hid (show turnedL b n = clean (turn b (n % (b.length : Int))) by unfold turnedL; rw [if_neg h0])
    have d1 : (b == []) = false := by simpa using h0
    have hpos : 0 < b.length := List.length_pos_iff.2 h0
    have HR := Lib.hid (fun W => lrem_any n b.length W (by omega) (by omega))
    have hlt := turn_length b (n % (b.length : Int))
    have HT := Lib.hid (fun W => turn_any b (n % (b.length : Int)) W (by omega))
    have HC := Lib.hid (fun W => clean_any (turn b (n % (b.length : Int))) W (by omega))
    clear h0 hlt
    generalize n % (b.length : Int) = k at *
    go_enter Tryz.func122, Tryz.ntmps122
    go_wp2_with fail
    refine (HR.out _).mono ?_
    rintro e wl ⟨rfl, rfl⟩
    go_wp2_with fail
    refine (HT.out _).mono ?_
    rintro e w1 ⟨rfl, hb1⟩
    go_wp2_with fail
    refine (HC.out _).mono ?_
    rintro e w2 ⟨rfl, hb2⟩
    go_wp2
    go_ret
    exact ⟨ret_str HF.out.symm, hb1.trans (hb2.mono hb1.size)⟩

/-- The act's own box, and the network's, in emitted. -/
theorem ac_at {W : World} {b : Nat} {t : Ac} (h : Blk W b 79 (acBox t)) : W.cell? ⟨b, 0, none⟩ = some (.int .i64 t.H) ∧ W.cell? ⟨b, 1, none⟩ = some (.int .i64 t.N) ∧ W.cell? ⟨b, 2, none⟩ = some (.string ⟨t.T.toArray⟩) :=
  ⟨by rw [h.at]; rfl, by rw [h.at]; rfl, by rw [h.at]; rfl⟩

set_option maxHeartbeats 3200000 in
theorem lemitted_any (c : Cf) (ca : Option Addr) (cc : Nat) (t : Ac) (r s : Int) (b : List UInt8) (w : World) (hc : c.Ok) (r0 : 0 ≤ r) (r1 : r ≤ 1099511627776) (s0 : 0 ≤ s) (s1 : s < slotsI c) (hb : b.length ≤ 1048576) (ht : t.T.length ≤ 1048576) :
    Calls Tryz.prog 114 #[.agg #[.int .i64 c.N, .int .i64 c.Pi, .int .i64 c.E, .int .i64 c.G, .int .i64 c.F, .slice ca c.P.length cc], .agg #[.int .i64 t.H, .int .i64 t.N, .string ⟨t.T.toArray⟩], .int .i64 r, .int .i64 s, .string ⟨b.toArray⟩] w fun e w' => e = .returned (.string ⟨(actL c t r s b).toArray⟩) ∧ Below w.heap.size w w' := by
  have hB0 : Below w.heap.size w ((w.alloc (.cells #[.int .i64 c.N, .int .i64 c.Pi, .int .i64 c.E, .int .i64 c.G, .int .i64 c.F, .slice ca c.P.length cc] 24)).alloc (.cells #[.int .i64 t.H, .int .i64 t.N, .string ⟨t.T.toArray⟩] 79)) := (alloc_below w _).alloc (by simp) _
  have hC0 : Blk ((w.alloc (.cells #[.int .i64 c.N, .int .i64 c.Pi, .int .i64 c.E, .int .i64 c.G, .int .i64 c.F, .slice ca c.P.length cc] 24)).alloc (.cells #[.int .i64 t.H, .int .i64 t.N, .string ⟨t.T.toArray⟩] 79)) w.heap.size 24 (confBox c ca cc) := (Blk.new w _ _).alloc _
  have hA0 : Blk ((w.alloc (.cells #[.int .i64 c.N, .int .i64 c.Pi, .int .i64 c.E, .int .i64 c.G, .int .i64 c.F, .slice ca c.P.length cc] 24)).alloc (.cells #[.int .i64 t.H, .int .i64 t.N, .string ⟨t.T.toArray⟩] 79)) (w.heap.size + 1) 79 (acBox t) := Blk.newAt _ _ (by simp)
  have hs0 : ((w.alloc (.cells #[.int .i64 c.N, .int .i64 c.Pi, .int .i64 c.E, .int .i64 c.G, .int .i64 c.F, .slice ca c.P.length cc] 24)).alloc (.cells #[.int .i64 t.H, .int .i64 t.N, .string ⟨t.T.toArray⟩] 79)).heap.size = w.heap.size + 2 := by simp
  have hm0 := Int.emod_nonneg t.H (show (7 : Int) ≠ 0 by omega)
  have hm7 := Int.emod_lt_of_pos t.H (show (0 : Int) < 7 by omega)
  have HR := Lib.hid (fun W => lrem_any t.H 7 W (by omega) (by omega))
  have HX := Lib.hid (show actL c t r s b = if t.H % 7 = 1 then b else if t.H % 7 = 2 then b.take (t.N % ((b.length : Int) + 1)).toNat else if t.H % 7 = 3 then clean t.T else if t.H % 7 = 4 then turnedL b t.N
    else if t.H % 7 = 5 then textF (payF (dataF c r s b) t.N) else if t.H % 7 = 6 then textF (echF (dataF c r s b) t.N) else [] from rfl)
  rcases (by omega : t.H % 7 = 0 ∨ t.H % 7 = 1 ∨ t.H % 7 = 2 ∨ t.H % 7 = 3 ∨ t.H % 7 = 4 ∨ t.H % 7 = 5 ∨ t.H % 7 = 6) with h | h | h | h | h | h | h
  · rw [h] at HR HX
    have HE := Lib.hid (show actL c t r s b = [] by rw [HX.out]; rfl)
    clear h hm0 hm7 HX
    go_enter Tryz.func114, Tryz.ntmps114
    go_wp2_with fail
    refine (HR.out _).mono ?_
    rintro e wl ⟨rfl, rfl⟩
    go_wp2
    go_ret
    exact ⟨ret_str HE.out.symm, hB0⟩
  · rw [h] at HR HX
    have HE := Lib.hid (show actL c t r s b = b by rw [HX.out]; rfl)
    clear h hm0 hm7 HX
    go_enter Tryz.func114, Tryz.ntmps114
    go_wp2_with fail
    refine (HR.out _).mono ?_
    rintro e wl ⟨rfl, rfl⟩
    go_wp2_with fail
    refine (clone_any ⟨b.toArray⟩ _ (by rw [size_mk]; omega)).mono ?_
    rintro e wn ⟨rfl, hb1⟩
    go_wp2
    go_ret
    exact ⟨ret_str HE.out.symm, hB0.trans (hb1.mono hB0.size)⟩
  · rw [h] at HR HX
    have hp0 := Int.emod_nonneg t.N (show (b.length : Int) + 1 ≠ 0 by omega)
    have hp1 := Int.emod_lt_of_pos t.N (show (0 : Int) < (b.length : Int) + 1 by omega)
    have HP := Lib.hid (fun W => lrem_any t.N ((b.length : Int) + 1) W (by omega) (by omega))
    have HE := Lib.hid (show actL c t r s b = b.take (t.N % ((b.length : Int) + 1)).toNat by rw [HX.out]; rfl)
    obtain ⟨k, hk⟩ : ∃ k : Nat, t.N % ((b.length : Int) + 1) = k := ⟨(t.N % ((b.length : Int) + 1)).toNat, by omega⟩
    rw [hk] at HP HE hp1
    have hkb : k ≤ b.length := by omega
    clear h hm0 hm7 HX hk hp0 hp1
    go_enter Tryz.func114, Tryz.ntmps114
    go_wp2_with fail
    refine (HR.out _).mono ?_
    rintro e wl ⟨rfl, rfl⟩
    go_wp2_with fail
    refine (HP.out _).mono ?_
    rintro e wl ⟨rfl, rfl⟩
    go_wp2_with fail
    refine (clone_any ⟨(b.take k).toArray⟩ _ (by rw [size_mk]; simp; omega)).mono ?_
    rintro e wn ⟨rfl, hb1⟩
    go_wp2
    go_ret
    exact ⟨ret_str (by rw [HE.out]; simp), hB0.trans (hb1.mono hB0.size)⟩
  · rw [h] at HR HX
    have HE := Lib.hid (show actL c t r s b = clean t.T by rw [HX.out]; rfl)
    clear h hm0 hm7 HX
    go_enter Tryz.func114, Tryz.ntmps114
    go_wp2_with fail
    refine (HR.out _).mono ?_
    rintro e wl ⟨rfl, rfl⟩
    go_wp2_with fail
    refine (clean_any t.T _ (by omega)).mono ?_
    rintro e wn ⟨rfl, hb1⟩
    go_wp2
    go_ret
    exact ⟨ret_str HE.out.symm, hB0.trans (hb1.mono hB0.size)⟩
  · rw [h] at HR HX
    have HE := Lib.hid (show actL c t r s b = turnedL b t.N by rw [HX.out]; rfl)
    clear h hm0 hm7 HX
    go_enter Tryz.func114, Tryz.ntmps114
    go_wp2_with fail
    refine (HR.out _).mono ?_
    rintro e wl ⟨rfl, rfl⟩
    go_wp2_with fail
    refine (lturned_any b t.N _ hb).mono ?_
    rintro e wn ⟨rfl, hb1⟩
    go_wp2
    go_ret
    exact ⟨ret_str HE.out.symm, hB0.trans (hb1.mono hB0.size)⟩
  · rw [h] at HR HX
    have HE := Lib.hid (show actL c t r s b = textF (payF (dataF c r s b) t.N) by rw [HX.out]; rfl)
    have hok := dataF_ok c r s b hc s0 s1
    have hokp := payF_ok hok.1 hok.2 t.N
    have HD := Lib.hid (fun W => ldataOf_any c ca cc r s b W hc r0 r1 hb)
    have HT := Lib.hid (fun W (a : Option Addr) (cap : Nat) (h : RowT W a (payF (dataF c r s b) t.N).E) => fText_ok c ca cc (payF (dataF c r s b) t.N) a cap W hc hokp h)
    clear h hm0 hm7 HX hok hokp
    generalize dataF c r s b = f at *
    go_enter Tryz.func114, Tryz.ntmps114
    go_wp2_with fail
    refine (HR.out _).mono ?_
    rintro e wl ⟨rfl, rfl⟩
    go_wp2_with fail
    refine (HD.out _).mono ?_
    rintro e wn ⟨fa, fc, rfl, hrf, hff, hb1⟩
    replace hB0 := hB0.trans (hb1.mono hB0.size)
    replace hC0 := (hC0.later hb1).alloc (.cells #[.int .i64 f.K, .int .i64 f.R, .int .i64 f.S, .int .i64 f.P.K, .int .i64 f.P.V, .slice fa f.E.length fc] 32)
    replace hA0 := (hA0.later hb1).alloc (.cells #[.int .i64 f.K, .int .i64 f.R, .int .i64 f.S, .int .i64 f.P.K, .int .i64 f.P.V, .slice fa f.E.length fc] 32)
    have hne : f.E = [] ∨ ∀ x, fa = some x → x.block ≠ wn.heap.size := by
      rcases hrf.2.2 with h3 | ⟨b', off, e', hlt, _⟩
      · exact .inl h3
      · exact .inr fun x hx => by rw [e'] at hx; injection hx with hx; subst hx; show b' ≠ _; omega
    have hG : Blk (wn.alloc (.cells #[.int .i64 f.K, .int .i64 f.R, .int .i64 f.S, .int .i64 f.P.K, .int .i64 f.P.V, .slice fa f.E.length fc] 32)) wn.heap.size 32 (frBox f fa fc) := Blk.new wn _ _
    have hcn : w.heap.size < wn.heap.size := by have h1 := hs0; have h2 := hb1.size; omega
    replace hrf := hrf.alloc (.cells #[.int .i64 f.K, .int .i64 f.R, .int .i64 f.S, .int .i64 f.P.K, .int .i64 f.P.V, .slice fa f.E.length fc] 32)
    replace hB0 := hB0.alloc hB0.size (.cells #[.int .i64 f.K, .int .i64 f.R, .int .i64 f.S, .int .i64 f.P.K, .int .i64 f.P.V, .slice fa f.E.length fc] 32)
    clear hb1 hff hs0
    go_upto_region 12 with fail
    generalize wn.alloc (.cells #[.int .i64 f.K, .int .i64 f.R, .int .i64 f.S, .int .i64 f.P.K, .int .i64 f.P.V, .slice fa f.E.length fc] 32) = wk at *
    generalize wn.heap.size = gb at *
    obtain ⟨q0, q1, q2⟩ := ac_at hA0
    go_wp2_with fail
    refine (lvalue_any t.N _).mono ?_
    rintro e wj ⟨rfl, hb1⟩
    replace hB0 := hB0.trans (hb1.mono hB0.size)
    replace hC0 := hC0.later hb1
    replace hG := hG.later hb1
    replace hrf := hrf.later hb1
    have hFz := hG.frozen
    have hQg := hG.at
    unfold frBox at hQg
    have k2 : Blk ((wj.setCell ⟨gb, 3, none⟩ (.int .i64 2)).setCell ⟨gb, 4, none⟩ (.int .i64 (t.N % 256))) gb 32 (frBox (payF f t.N) fa fc) := (hG.set 3 _).set 4 _
    replace hC0 := (hC0.far (p := ⟨gb, 3, none⟩) (by show w.heap.size ≠ gb; omega) (.int .i64 2)).far (p := ⟨gb, 4, none⟩) (by show w.heap.size ≠ gb; omega) (.int .i64 (t.N % 256))
    replace hrf := (hrf.far2 gb 3 (.int .i64 2) hne).far2 gb 4 (.int .i64 (t.N % 256)) hne
    replace hB0 := (hB0.setCell (p := ⟨gb, 3, none⟩) (by show w.heap.size ≤ gb; omega) (.int .i64 2)).setCell (p := ⟨gb, 4, none⟩) (by show w.heap.size ≤ gb; omega) (.int .i64 (t.N % 256))
    clear hb1 q0 q1 q2 hA0
    go_upto_region 13 with fail
    generalize (wj.setCell ⟨gb, 3, none⟩ (.int .i64 2)).setCell ⟨gb, 4, none⟩ (.int .i64 (t.N % 256)) = wi at *
    clear hFz hQg hG
    have hQg := k2.at
    unfold frBox at hQg
    have hQc := hC0.at
    unfold confBox at hQc
    go_wp2_with fail
    refine (HT.out _ fa fc hrf).mono ?_
    rintro e wh ⟨rfl, hb1⟩
    go_wp2
    go_ret
    exact ⟨ret_str HE.out.symm, hB0.trans (hb1.mono hB0.size)⟩
  · rw [h] at HR HX
    have HE := Lib.hid (show actL c t r s b = textF (echF (dataF c r s b) t.N) by rw [HX.out]; rfl)
    have hok := dataF_ok c r s b hc s0 s1
    have hoke := echF_ok hok.1 t.N
    have HD := Lib.hid (fun W => ldataOf_any c ca cc r s b W hc r0 r1 hb)
    have hEl := (ok_small hc hok.1).2.2.2.2.2
    clear h hm0 hm7 HX hok
    generalize dataF c r s b = f at *
    obtain ⟨TS, hTS⟩ : ∃ TS, TS = List.replicate f.E.length (⟨2, t.N % 256⟩ : It) := ⟨_, rfl⟩
    have HP := Lib.hid (fun (W : World) (H c : Nat) (h : Blk W H 29 #[.int .i64 2, .int .i64 (t.N % 256)]) => show Calls Tryz.prog 126 #[.slice (some ⟨H, 0, none⟩) 1 c, .int .i64 f.E.length] W fun e w' => ∃ (a : Option Addr) (cap : Nat), e = .returned (.slice a TS.length cap) ∧ RowT w' a TS ∧ (∀ x, a = some x → W.heap.size ≤ x.block) ∧ Below W.heap.size W w' by
      rw [hTS, List.length_replicate]
      exact lrepeat_any ⟨2, t.N % 256⟩ H c f.E.length W h (by omega) ⟨by show (-9223372036854775808 : Int) ≤ 2; omega, by show (2 : Int) ≤ 9223372036854775807; omega⟩ ⟨by show (-9223372036854775808 : Int) ≤ t.N % 256; omega, by show t.N % 256 ≤ 9223372036854775807; omega⟩)
    have hg : echF f t.N = ⟨f.K, f.R, f.S, f.P, TS⟩ := by rw [hTS]; rfl
    rw [hg] at hoke HE
    have HT := Lib.hid (fun W (a : Option Addr) (cap : Nat) (h : RowT W a TS) => fText_ok c ca cc ⟨f.K, f.R, f.S, f.P, TS⟩ a cap W hc hoke h)
    clear hg hoke hTS
    go_enter Tryz.func114, Tryz.ntmps114
    go_wp2_with fail
    refine (HR.out _).mono ?_
    rintro e wl ⟨rfl, rfl⟩
    go_wp2_with fail
    refine (HD.out _).mono ?_
    rintro e wn ⟨fa, fc, rfl, hrf, hff, hb1⟩
    replace hB0 := hB0.trans (hb1.mono hB0.size)
    replace hC0 := (hC0.later hb1).alloc (.cells #[.int .i64 f.K, .int .i64 f.R, .int .i64 f.S, .int .i64 f.P.K, .int .i64 f.P.V, .slice fa f.E.length fc] 32)
    replace hA0 := (hA0.later hb1).alloc (.cells #[.int .i64 f.K, .int .i64 f.R, .int .i64 f.S, .int .i64 f.P.K, .int .i64 f.P.V, .slice fa f.E.length fc] 32)
    have hG : Blk (wn.alloc (.cells #[.int .i64 f.K, .int .i64 f.R, .int .i64 f.S, .int .i64 f.P.K, .int .i64 f.P.V, .slice fa f.E.length fc] 32)) wn.heap.size 32 (frBox f fa fc) := Blk.new wn _ _
    have hcn : w.heap.size < wn.heap.size := by have h1 := hs0; have h2 := hb1.size; omega
    have hwk : wn.heap.size < (wn.alloc (.cells #[.int .i64 f.K, .int .i64 f.R, .int .i64 f.S, .int .i64 f.P.K, .int .i64 f.P.V, .slice fa f.E.length fc] 32)).heap.size := hG.lt
    replace hB0 := hB0.alloc hB0.size (.cells #[.int .i64 f.K, .int .i64 f.R, .int .i64 f.S, .int .i64 f.P.K, .int .i64 f.P.V, .slice fa f.E.length fc] 32)
    clear hb1 hff hs0 hrf HR HD
    go_upto_region 16 with fail
    generalize wn.alloc (.cells #[.int .i64 f.K, .int .i64 f.R, .int .i64 f.S, .int .i64 f.P.K, .int .i64 f.P.V, .slice fa f.E.length fc] 32) = wk at *
    generalize wn.heap.size = gb at *
    have HV := Lib.hid (fun W => lvalue_any t.N W)
    refine region_tail [some 63, some 64, some 65, some 66, some 67, some 68, some 69, some 70, some 71, none] [none, none, none, none, none, none, none, none, none, none] 75 9 (by kernel_rfl) (by kernel_rfl) rfl rfl ?_
    simp only [List.take_succ_cons, List.take_zero, List.drop_succ_cons, List.drop_zero]
    apply step_fix
    · intro a W Zs hS hFm hz hd
      have h6 := hFm.old 6 rfl
      conv at h6 => rhs; whnf
      replace h6 := ev_get hFm.size h6
      refine .inl ⟨wanted_none rfl _, fun K hK => ?_⟩
      have HK := Lib.hid hK
      clear hd hFm hK
      go_simp
      exact HK.out _ _ rfl (Below.refl _ _)
    simp only [List.nil_append, List.cons_append]
    apply step_fix
    · intro a W Zs hS hFm hz hd
      have h63 := ev_get hFm.size (hd 0 63 rfl rfl)
      have hq := (hA0.drew1.later hS).at
      unfold acBox at hq
      refine .inl ⟨wanted_none rfl _, fun K hK => ?_⟩
      have HK := Lib.hid hK
      clear hd hFm hK
      go_simp
      exact HK.out _ _ rfl (Below.refl _ _)
    simp only [List.nil_append, List.cons_append]
    apply step_fix
    · intro a W Zs hS hFm hz hd
      have h64 := ev_get hFm.size (hd 1 64 rfl rfl)
      refine .inl ⟨wanted_none rfl _, fun K hK => ?_⟩
      have HK := Lib.hid hK
      clear hd hFm hK
      go_simp
      refine (HV.out _).mono ?_
      rintro e W' ⟨rfl, hb⟩
      exact HK.out _ _ rfl hb
    simp only [List.nil_append, List.cons_append]
    apply step_blk
    · intro a W Zs hS hFm hz hd
      have h65 := ev_get hFm.size (hd 2 65 rfl rfl)
      refine .inl ⟨wanted_none rfl _, fun K hK => ?_⟩
      have HK := Lib.hid hK
      clear hd hFm hK
      go_simp
      exact HK.out _ _ ⟨_, rfl, Blk.new _ _ _, .inr (.inl ⟨Nat.le_refl _, by simp⟩)⟩ (alloc_below _ _)
    simp only [List.nil_append, List.cons_append]
    apply step_fix
    · intro a W Zs hS hFm hz hd
      have h12 := hFm.old 12 rfl
      conv at h12 => rhs; whnf
      replace h12 := ev_get hFm.size h12
      refine .inl ⟨wanted_none rfl _, fun K hK => ?_⟩
      have HK := Lib.hid hK
      clear hd hFm hK
      go_simp
      exact HK.out _ _ rfl (Below.refl _ _)
    simp only [List.nil_append, List.cons_append]
    apply step_fix
    · intro a W Zs hS hFm hz hd
      have h67 := ev_get hFm.size (hd 4 67 rfl rfl)
      have hq := (hG.drew1.later hS).at
      unfold frBox at hq
      refine .inl ⟨wanted_none rfl _, fun K hK => ?_⟩
      have HK := Lib.hid hK
      clear hd hFm hK
      go_simp
      exact HK.out _ _ rfl (Below.refl _ _)
    simp only [List.nil_append, List.cons_append]
    apply step_fix
    · intro a W Zs hS hFm hz hd
      have h68 := ev_get hFm.size (hd 5 68 rfl rfl)
      refine .inl ⟨wanted_none rfl _, fun K hK => ?_⟩
      have HK := Lib.hid hK
      clear hd hFm hK
      go_simp
      exact HK.out _ _ rfl (Below.refl _ _)
    simp only [List.nil_append, List.cons_append]
    refine step_of (rowTNF _ (TS)) (rowTNF_good _ _) ?_ ?_
    · intro a W Zs hS hFm hz hd
      obtain ⟨b66, e66, q66, f66⟩ := hd 3 66 rfl rfl
      have h66 := ev_get hFm.size e66
      have h69 := ev_get hFm.size (hd 6 69 rfl rfl)
      refine .inl ⟨wanted_none rfl _, fun K hK => ?_⟩
      have HK := Lib.hid hK
      clear hd hFm hK
      go_simp
      refine (HP.out _ _ _ q66).mono ?_
      rintro e W' ⟨ra, rc, rfl, hr, hfr, hb⟩
      exact HK.out _ _ ⟨ra, rc, rfl, hr, hr.foot hfr, fun x hx => Nat.le_trans hS.size (hfr x hx)⟩ hb
    simp only [List.nil_append, List.cons_append]
    apply step_fix
    · intro a W Zs hS hFm hz hd
      have h12 := hFm.old 12 rfl
      conv at h12 => rhs; whnf
      replace h12 := ev_get hFm.size h12
      refine .inl ⟨wanted_none rfl _, fun K hK => ?_⟩
      have HK := Lib.hid hK
      clear hd hFm hK
      go_simp
      exact HK.out _ _ rfl (Below.refl _ _)
    simp only [List.nil_append, List.cons_append]
    intro a wj Zs hS hFm hz hd
    obtain ⟨a70, c70, e70, r70, f70, nn70⟩ := hd 7 70 (by decide) rfl
    have e71 := hd 8 71 (by decide) rfl
    have e0 := hFm.old 0 rfl
    conv at e0 => rhs; whnf
    have e1 := hFm.old 1 rfl
    conv at e1 => rhs; whnf
    have e2 := hFm.old 2 rfl
    conv at e2 => rhs; whnf
    have e3 := hFm.old 3 rfl
    conv at e3 => rhs; whnf
    have e4 := hFm.old 4 rfl
    conv at e4 => rhs; whnf
    have e5 := hFm.old 5 rfl
    conv at e5 => rhs; whnf
    have e6 := hFm.old 6 rfl
    conv at e6 => rhs; whnf
    have e7 := hFm.old 7 rfl
    conv at e7 => rhs; whnf
    have e8 := hFm.old 8 rfl
    conv at e8 => rhs; whnf
    have e9 := hFm.old 9 rfl
    conv at e9 => rhs; whnf
    have e10 := hFm.old 10 rfl
    conv at e10 => rhs; whnf
    have e11 := hFm.old 11 rfl
    conv at e11 => rhs; whnf
    have e12 := hFm.old 12 rfl
    conv at e12 => rhs; whnf
    have e13 := hFm.old 13 rfl
    conv at e13 => rhs; whnf
    have e14 := hFm.old 14 rfl
    conv at e14 => rhs; whnf
    have e15 := hFm.old 15 rfl
    conv at e15 => rhs; whnf
    have e16 := hFm.old 16 rfl
    conv at e16 => rhs; whnf
    have e17 := hFm.old 17 rfl
    conv at e17 => rhs; whnf
    have e18 := hFm.old 18 rfl
    conv at e18 => rhs; whnf
    have e19 := hFm.old 19 rfl
    conv at e19 => rhs; whnf
    have e20 := hFm.old 20 rfl
    conv at e20 => rhs; whnf
    have e21 := hFm.old 21 rfl
    conv at e21 => rhs; whnf
    have e22 := hFm.old 22 rfl
    conv at e22 => rhs; whnf
    have e23 := hFm.old 23 rfl
    conv at e23 => rhs; whnf
    have e24 := hFm.old 24 rfl
    conv at e24 => rhs; whnf
    have e25 := hFm.old 25 rfl
    conv at e25 => rhs; whnf
    have e26 := hFm.old 26 rfl
    conv at e26 => rhs; whnf
    have e27 := hFm.old 27 rfl
    conv at e27 => rhs; whnf
    have e28 := hFm.old 28 rfl
    conv at e28 => rhs; whnf
    have e29 := hFm.old 29 rfl
    conv at e29 => rhs; whnf
    have e30 := hFm.old 30 rfl
    conv at e30 => rhs; whnf
    have e31 := hFm.old 31 rfl
    conv at e31 => rhs; whnf
    have e32 := hFm.old 32 rfl
    conv at e32 => rhs; whnf
    have e33 := hFm.old 33 rfl
    conv at e33 => rhs; whnf
    have e34 := hFm.old 34 rfl
    conv at e34 => rhs; whnf
    have e35 := hFm.old 35 rfl
    conv at e35 => rhs; whnf
    have e36 := hFm.old 36 rfl
    conv at e36 => rhs; whnf
    have e37 := hFm.old 37 rfl
    conv at e37 => rhs; whnf
    have e38 := hFm.old 38 rfl
    conv at e38 => rhs; whnf
    have e39 := hFm.old 39 rfl
    conv at e39 => rhs; whnf
    have e40 := hFm.old 40 rfl
    conv at e40 => rhs; whnf
    have e41 := hFm.old 41 rfl
    conv at e41 => rhs; whnf
    have e42 := hFm.old 42 rfl
    conv at e42 => rhs; whnf
    have e43 := hFm.old 43 rfl
    conv at e43 => rhs; whnf
    have e44 := hFm.old 44 rfl
    conv at e44 => rhs; whnf
    have e45 := hFm.old 45 rfl
    conv at e45 => rhs; whnf
    have e46 := hFm.old 46 rfl
    conv at e46 => rhs; whnf
    have e47 := hFm.old 47 rfl
    conv at e47 => rhs; whnf
    have e48 := hFm.old 48 rfl
    conv at e48 => rhs; whnf
    have e49 := hFm.old 49 rfl
    conv at e49 => rhs; whnf
    have e50 := hFm.old 50 rfl
    conv at e50 => rhs; whnf
    have e51 := hFm.old 51 rfl
    conv at e51 => rhs; whnf
    have e52 := hFm.old 52 rfl
    conv at e52 => rhs; whnf
    have e53 := hFm.old 53 rfl
    conv at e53 => rhs; whnf
    have e54 := hFm.old 54 rfl
    conv at e54 => rhs; whnf
    have e55 := hFm.old 55 rfl
    conv at e55 => rhs; whnf
    have e56 := hFm.old 56 rfl
    conv at e56 => rhs; whnf
    have e57 := hFm.old 57 rfl
    conv at e57 => rhs; whnf
    have e58 := hFm.old 58 rfl
    conv at e58 => rhs; whnf
    have e59 := hFm.old 59 rfl
    conv at e59 => rhs; whnf
    have e60 := hFm.old 60 rfl
    conv at e60 => rhs; whnf
    have e61 := hFm.old 61 rfl
    conv at e61 => rhs; whnf
    have e62 := hFm.old 62 rfl
    conv at e62 => rhs; whnf
    have e72 := hFm.old 72 rfl
    conv at e72 => rhs; whnf
    have e73 := hFm.old 73 rfl
    conv at e73 => rhs; whnf
    have e74 := hFm.old 74 rfl
    conv at e74 => rhs; whnf
    have hsz := hFm.size
    have hdf := hFm.defers
    clear hd hFm
    obtain ⟨t, df⟩ := a
    simp only at hsz hdf
    subst hdf
    obtain ⟨x, hx⟩ : ∃ x : Nat → Value, ∀ i, t.getD i undef = x i := ⟨fun i => t.getD i undef, fun _ => rfl⟩
    have h70 := (hx 70).symm.trans e70
    have h71 := (hx 71).symm.trans e71
    have h0 := (hx 0).symm.trans e0
    have h1 := (hx 1).symm.trans e1
    have h2 := (hx 2).symm.trans e2
    have h3 := (hx 3).symm.trans e3
    have h4 := (hx 4).symm.trans e4
    have h5 := (hx 5).symm.trans e5
    have h6 := (hx 6).symm.trans e6
    have h7 := (hx 7).symm.trans e7
    have h8 := (hx 8).symm.trans e8
    have h9 := (hx 9).symm.trans e9
    have h10 := (hx 10).symm.trans e10
    have h11 := (hx 11).symm.trans e11
    have h12 := (hx 12).symm.trans e12
    have h13 := (hx 13).symm.trans e13
    have h14 := (hx 14).symm.trans e14
    have h15 := (hx 15).symm.trans e15
    have h16 := (hx 16).symm.trans e16
    have h17 := (hx 17).symm.trans e17
    have h18 := (hx 18).symm.trans e18
    have h19 := (hx 19).symm.trans e19
    have h20 := (hx 20).symm.trans e20
    have h21 := (hx 21).symm.trans e21
    have h22 := (hx 22).symm.trans e22
    have h23 := (hx 23).symm.trans e23
    have h24 := (hx 24).symm.trans e24
    have h25 := (hx 25).symm.trans e25
    have h26 := (hx 26).symm.trans e26
    have h27 := (hx 27).symm.trans e27
    have h28 := (hx 28).symm.trans e28
    have h29 := (hx 29).symm.trans e29
    have h30 := (hx 30).symm.trans e30
    have h31 := (hx 31).symm.trans e31
    have h32 := (hx 32).symm.trans e32
    have h33 := (hx 33).symm.trans e33
    have h34 := (hx 34).symm.trans e34
    have h35 := (hx 35).symm.trans e35
    have h36 := (hx 36).symm.trans e36
    have h37 := (hx 37).symm.trans e37
    have h38 := (hx 38).symm.trans e38
    have h39 := (hx 39).symm.trans e39
    have h40 := (hx 40).symm.trans e40
    have h41 := (hx 41).symm.trans e41
    have h42 := (hx 42).symm.trans e42
    have h43 := (hx 43).symm.trans e43
    have h44 := (hx 44).symm.trans e44
    have h45 := (hx 45).symm.trans e45
    have h46 := (hx 46).symm.trans e46
    have h47 := (hx 47).symm.trans e47
    have h48 := (hx 48).symm.trans e48
    have h49 := (hx 49).symm.trans e49
    have h50 := (hx 50).symm.trans e50
    have h51 := (hx 51).symm.trans e51
    have h52 := (hx 52).symm.trans e52
    have h53 := (hx 53).symm.trans e53
    have h54 := (hx 54).symm.trans e54
    have h55 := (hx 55).symm.trans e55
    have h56 := (hx 56).symm.trans e56
    have h57 := (hx 57).symm.trans e57
    have h58 := (hx 58).symm.trans e58
    have h59 := (hx 59).symm.trans e59
    have h60 := (hx 60).symm.trans e60
    have h61 := (hx 61).symm.trans e61
    have h62 := (hx 62).symm.trans e62
    have h72 := (hx 72).symm.trans e72
    have h73 := (hx 73).symm.trans e73
    have h74 := (hx 74).symm.trans e74
    have ht' : t = #[x 0, x 1, x 2, x 3, x 4, x 5, x 6, x 7, x 8, x 9, x 10, x 11, x 12, x 13, x 14, x 15, x 16, x 17, x 18, x 19, x 20, x 21, x 22, x 23, x 24, x 25, x 26, x 27, x 28, x 29, x 30, x 31, x 32, x 33, x 34, x 35, x 36, x 37, x 38, x 39, x 40, x 41, x 42, x 43, x 44, x 45, x 46, x 47, x 48, x 49, x 50, x 51, x 52, x 53, x 54, x 55, x 56, x 57, x 58, x 59, x 60, x 61, x 62, x 63, x 64, x 65, x 66, x 67, x 68, x 69, x 70, x 71, x 72, x 73, x 74] := frame_lit t 75 hsz x hx
    clear hx hsz hz e70 e71 e0 e1 e2 e3 e4 e5 e6 e7 e8 e9 e10 e11 e12 e13 e14 e15 e16 e17 e18 e19 e20 e21 e22 e23 e24 e25 e26 e27 e28 e29 e30 e31 e32 e33 e34 e35 e36 e37 e38 e39 e40 e41 e42 e43 e44 e45 e46 e47 e48 e49 e50 e51 e52 e53 e54 e55 e56 e57 e58 e59 e60 e61 e62 e72 e73 e74
    subst ht'
    (try dsimp only)
    rw [h70, h71, h0, h1, h2, h3, h4, h5, h6, h7, h8, h9, h10, h11, h12, h13, h14, h15, h16, h17, h18, h19, h20, h21, h22, h23, h24, h25, h26, h27, h28, h29, h30, h31, h32, h33, h34, h35, h36, h37, h38, h39, h40, h41, h42, h43, h44, h45, h46, h47, h48, h49, h50, h51, h52, h53, h54, h55, h56, h57, h58, h59, h60, h61, h62, h72, h73, h74]
    clear h70 h71 h0 h1 h2 h3 h4 h5 h6 h7 h8 h9 h10 h11 h12 h13 h14 h15 h16 h17 h18 h19 h20 h21 h22 h23 h24 h25 h26 h27 h28 h29 h30 h31 h32 h33 h34 h35 h36 h37 h38 h39 h40 h41 h42 h43 h44 h45 h46 h47 h48 h49 h50 h51 h52 h53 h54 h55 h56 h57 h58 h59 h60 h61 h62 h72 h73 h74
    have hb1 := from_drew hS
    replace hB0 := hB0.trans (hb1.mono hB0.size)
    replace hC0 := hC0.later hb1
    replace hG := hG.later hb1
    have hFz := hG.frozen
    have hQg := hG.at
    unfold frBox at hQg
    have hnew : ∀ x, a70 = some x → x.block ≠ gb := fun x hx => by have := nn70 x hx; have h2 : wk.drew.heap.size = wk.heap.size := rfl; omega
    have k2 : Blk (wj.setCell ⟨gb, 5, none⟩ (.slice a70 TS.length c70)) gb 32 (frBox ⟨f.K, f.R, f.S, f.P, TS⟩ a70 c70) := hG.set 5 _
    replace hC0 := hC0.far (p := ⟨gb, 5, none⟩) (by show w.heap.size ≠ gb; omega) (.slice a70 TS.length c70)
    have hrf := r70.far2 gb 5 (.slice a70 TS.length c70) (.inr hnew)
    replace hB0 := hB0.setCell (p := ⟨gb, 5, none⟩) (by show w.heap.size ≤ gb; omega) (.slice a70 TS.length c70)
    clear hS hb1 hA0 HV HP r70 f70 nn70
    go_upto_region 17 with fail
    generalize wj.setCell ⟨gb, 5, none⟩ (.slice a70 TS.length c70) = wi at *
    clear hFz hQg hG
    have hQg := k2.at
    unfold frBox at hQg
    have hQc := hC0.at
    unfold confBox at hQc
    go_wp2_with fail
    refine (HT.out _ a70 c70 hrf).mono ?_
    rintro e wh ⟨rfl, hb1⟩
    go_wp2
    go_ret
    exact ⟨ret_str HE.out.symm, hB0.trans (hb1.mono hB0.size)⟩

end Go.Proofs.YthhmedlefahccaaGreatDoor
/-
  Contracts of package fault, last part: Emit.
-/
namespace Go.Proofs.YthhmedlefahccaaGreatDoor
open Go.RowKit Plait
set_option maxRecDepth 100000
set_option linter.unusedVariables false
set_option linter.unusedSimpArgs false

set_option maxHeartbeats 3200000 in
theorem lEmit_any (c : Cf) (ca : Option Addr) (cc : Nat) (f : Fa) (a : Option Addr) (ac : Nat) (d : Option Addr) (dc : Nat) (r s i j : Int) (b : List UInt8) (w : World) (hc : c.Ok) (hA : RowA w a f.A) (hl : f.A.length ≤ 1000000) (ht : ∀ x ∈ f.A, x.T.length ≤ 1048576)
    (r0 : 0 ≤ r) (r1 : r ≤ 1000000) (s0 : 0 ≤ s) (s1 : s < slotsI c) (hi : inI i) (j0 : 0 ≤ j) (j1 : j ≤ 1000000) (hb : b.length ≤ 1048576) :
    Calls Tryz.prog 107 #[.agg #[.int .i64 c.N, .int .i64 c.Pi, .int .i64 c.E, .int .i64 c.G, .int .i64 c.F, .slice ca c.P.length cc], .agg #[.int .i64 f.K, .int .i64 f.At, .int .i64 f.F, .int .i64 f.To, .slice a f.A.length ac, .slice d f.D.length dc], .int .i64 r, .int .i64 s, .int .i64 i, .int .i64 j, .string ⟨b.toArray⟩] w fun e w' => e = .returned (.string ⟨(emitL c f r s i j b).toArray⟩) ∧ Below w.heap.size w w' := by
  have hB0 : Below w.heap.size w ((w.alloc (.cells #[.int .i64 c.N, .int .i64 c.Pi, .int .i64 c.E, .int .i64 c.G, .int .i64 c.F, .slice ca c.P.length cc] 24)).alloc (.cells #[.int .i64 f.K, .int .i64 f.At, .int .i64 f.F, .int .i64 f.To, .slice a f.A.length ac, .slice d f.D.length dc] 27)) := (alloc_below w _).alloc (by simp) _
  have hC : Blk ((w.alloc (.cells #[.int .i64 c.N, .int .i64 c.Pi, .int .i64 c.E, .int .i64 c.G, .int .i64 c.F, .slice ca c.P.length cc] 24)).alloc (.cells #[.int .i64 f.K, .int .i64 f.At, .int .i64 f.F, .int .i64 f.To, .slice a f.A.length ac, .slice d f.D.length dc] 27)) w.heap.size 24 (confBox c ca cc) := (Blk.new w _ _).alloc _
  have hF : Blk ((w.alloc (.cells #[.int .i64 c.N, .int .i64 c.Pi, .int .i64 c.E, .int .i64 c.G, .int .i64 c.F, .slice ca c.P.length cc] 24)).alloc (.cells #[.int .i64 f.K, .int .i64 f.At, .int .i64 f.F, .int .i64 f.To, .slice a f.A.length ac, .slice d f.D.length dc] 27)) (w.heap.size + 1) 27 (faBox f a ac d dc) := Blk.newAt _ _ (by simp)
  have HH := Lib.hid (fun W => lHits_any c ca cc f a ac d dc i j W hc hi ⟨by omega, by omega⟩)
  have HC := Lib.hid (fun W => clone_any ⟨b.toArray⟩ W (by rw [size_mk]; omega))
  have HX := Lib.hid (show emitL c f r s i j b = if hitsB c f i j = false ∨ f.To ≤ r then b else if r < f.F ∨ f.A = [] then [] else actL c (pickA f.A (17 * r + 5 * s + j)) r s b from rfl)
  by_cases h1 : f.To ≤ r
  · have HE := Lib.hid (show emitL c f r s i j b = b by rw [HX.out, if_pos (.inr h1)])
    have d1 : decide (f.To ≤ r) = true := by simpa using h1
    clear h1 HX
    go_enter Tryz.func107, Tryz.ntmps107
    go_wp2_with fail
    refine (HC.out _).mono ?_
    rintro e wn ⟨rfl, hb1⟩
    go_wp2
    go_ret
    exact ⟨ret_str HE.out.symm, hB0.trans (hb1.mono hB0.size)⟩
  · have d1 : decide (f.To ≤ r) = false := by simpa using h1
    cases h2 : hitsB c f i j
    · have HE := Lib.hid (show emitL c f r s i j b = b by rw [HX.out, if_pos (.inl h2)])
      rw [h2] at HH
      clear h1 h2 HX
      go_enter Tryz.func107, Tryz.ntmps107
      go_wp2_with fail
      refine (HH.out _).mono ?_
      rintro e wm ⟨rfl, hb2⟩
      replace hB0 := hB0.trans (hb2.mono hB0.size)
      go_wp2_with fail
      refine (HC.out _).mono ?_
      rintro e wn ⟨rfl, hb1⟩
      go_wp2
      go_ret
      exact ⟨ret_str HE.out.symm, hB0.trans (hb1.mono hB0.size)⟩
    · have HX2 := Lib.hid (show emitL c f r s i j b = if r < f.F ∨ f.A = [] then [] else actL c (pickA f.A (17 * r + 5 * s + j)) r s b by rw [HX.out, if_neg (by simp [h2]; omega)])
      rw [h2] at HH
      clear h2 HX
      by_cases h3 : r < f.F
      · have HE := Lib.hid (show emitL c f r s i j b = [] by rw [HX2.out, if_pos (.inl h3)])
        have d2 : decide (r < f.F) = true := by simpa using h3
        clear h1 h3 HX2
        go_enter Tryz.func107, Tryz.ntmps107
        go_wp2_with fail
        refine (HH.out _).mono ?_
        rintro e wm ⟨rfl, hb2⟩
        replace hB0 := hB0.trans (hb2.mono hB0.size)
        replace hF := hF.later hb2
        have hQf := hF.at
        unfold faBox at hQf
        clear hb2
        go_wp2
        go_ret
        exact ⟨ret_str HE.out.symm, hB0⟩
      · have d2 : decide (r < f.F) = false := by simpa using h3
        by_cases h4 : f.A.length = 0
        · have HE := Lib.hid (show emitL c f r s i j b = [] by rw [HX2.out, if_pos (.inr (List.eq_nil_of_length_eq_zero h4))])
          have d3 : ((f.A.length : Int) == 0) = true := by simpa using h4
          clear h1 h3 h4 HX2
          go_enter Tryz.func107, Tryz.ntmps107
          go_wp2_with fail
          refine (HH.out _).mono ?_
          rintro e wm ⟨rfl, hb2⟩
          replace hB0 := hB0.trans (hb2.mono hB0.size)
          replace hF := hF.later hb2
          have hQf := hF.at
          unfold faBox at hQf
          clear hb2
          go_wp2
          go_ret
          exact ⟨ret_str HE.out.symm, hB0⟩
        · have hne : f.A ≠ [] := by intro h; rw [h] at h4; simp at h4
          have HE := Lib.hid (show emitL c f r s i j b = actL c (pickA f.A (17 * r + 5 * s + j)) r s b by rw [HX2.out, if_neg (by simp [hne]; omega)])
          have d3 : ((f.A.length : Int) == 0) = false := by simpa using h4
          have HP := Lib.hid (fun W (h : RowA W a f.A) => lpickA_any a f.A ac (17 * r + 5 * s + j) W h (by omega) hl)
          have hpT : (pickA f.A (17 * r + 5 * s + j)).T.length ≤ 1048576 := by
            obtain ⟨k, hk, hk2⟩ := emod_at f.A (17 * r + 5 * s + j) (by omega)
            unfold pickA
            rw [hk]
            simp [hk2]
            exact ht _ (List.getElem_mem hk2)
          have HM := Lib.hid (fun W => lemitted_any c ca cc (pickA f.A (17 * r + 5 * s + j)) r s b W hc r0 (by omega) s0 s1 hb hpT)
          clear h1 h3 h4 HX2 hne hpT
          generalize pickA f.A (17 * r + 5 * s + j) = t at *
          have hs15 : slotsI c ≤ 15 := by have := hc.n12; have := hc.len; unfold slotsI; omega
          have z1 : IntKind.i64.wrap (17 * r) = 17 * r := wrap_in _ (by omega) (by omega)
          have z2 : IntKind.i64.wrap (5 * s) = 5 * s := wrap_in _ (by omega) (by omega)
          have z3 : IntKind.i64.wrap (17 * r + 5 * s) = 17 * r + 5 * s := wrap_in _ (by omega) (by omega)
          have z4 : IntKind.i64.wrap (17 * r + 5 * s + j) = 17 * r + 5 * s + j := wrap_in _ (by omega) (by omega)
          go_enter Tryz.func107, Tryz.ntmps107
          go_wp2_with fail
          refine (HH.out _).mono ?_
          rintro e wm ⟨rfl, hb2⟩
          replace hB0 := hB0.trans (hb2.mono hB0.size)
          replace hF := hF.later hb2
          replace hC := hC.later hb2
          have hAm := hA.later hB0
          have hQf := hF.at
          unfold faBox at hQf
          clear hb2
          go_upto_region 5 with fail
          refine region_slots [some 41, some 42, some 43, some 44, some 45, some 46, some 47, some 48, some 49, some 50, some 51, some 52, some 53, some 54, some 55, some 14] [none, none, none, none, none, none, none, none, none, none, none, none, none, none, none, none] 56 16 rfl (by kernel_rfl) (by kernel_rfl) rfl rfl ?_
          apply step_fix
          · intro a W Zs hS hFm hz hd
            have h7 := hFm.old 7 rfl
            conv at h7 => rhs; whnf
            replace h7 := ev_get hFm.size h7
            have hq := (hC.drew1.later hS).at
            unfold confBox at hq
            refine .inl ⟨wanted_none rfl _, fun K hK => ?_⟩
            have HK := Lib.hid hK
            clear hd hFm hK
            go_simp
            exact HK.out _ _ rfl (Below.refl _ _)
          simp only [List.nil_append, List.cons_append]
          apply step_fix
          · intro a W Zs hS hFm hz hd
            have h8 := hFm.old 8 rfl
            conv at h8 => rhs; whnf
            replace h8 := ev_get hFm.size h8
            refine .inl ⟨wanted_none rfl _, fun K hK => ?_⟩
            have HK := Lib.hid hK
            clear hd hFm hK
            go_simp
            exact HK.out _ _ rfl (Below.refl _ _)
          simp only [List.nil_append, List.cons_append]
          apply step_fix
          · intro a W Zs hS hFm hz hd
            have h42 := ev_get hFm.size (hd 1 42 rfl rfl)
            have hq := (hF.drew1.later hS).at
            unfold faBox at hq
            refine .inl ⟨wanted_none rfl _, fun K hK => ?_⟩
            have HK := Lib.hid hK
            clear hd hFm hK
            go_simp
            exact HK.out _ _ rfl (Below.refl _ _)
          simp only [List.nil_append, List.cons_append]
          apply step_fix
          · intro a W Zs hS hFm hz hd
            have h2 := hFm.old 2 rfl
            conv at h2 => rhs; whnf
            replace h2 := ev_get hFm.size h2
            refine .inl ⟨wanted_none rfl _, fun K hK => ?_⟩
            have HK := Lib.hid hK
            clear hd hFm hK
            go_simp
            exact HK.out _ _ rfl (Below.refl _ _)
          simp only [List.nil_append, List.cons_append]
          apply step_fix
          · intro a W Zs hS hFm hz hd
            have h44 := ev_get hFm.size (hd 3 44 rfl rfl)
            refine .inl ⟨wanted_none rfl _, fun K hK => ?_⟩
            have HK := Lib.hid hK
            clear hd hFm hK
            go_simp
            exact HK.out _ _ rfl (Below.refl _ _)
          simp only [List.nil_append, List.cons_append]
          apply step_fix
          · intro a W Zs hS hFm hz hd
            have h3 := hFm.old 3 rfl
            conv at h3 => rhs; whnf
            replace h3 := ev_get hFm.size h3
            refine .inl ⟨wanted_none rfl _, fun K hK => ?_⟩
            have HK := Lib.hid hK
            clear hd hFm hK
            go_simp
            exact HK.out _ _ rfl (Below.refl _ _)
          simp only [List.nil_append, List.cons_append]
          apply step_fix
          · intro a W Zs hS hFm hz hd
            have h46 := ev_get hFm.size (hd 5 46 rfl rfl)
            refine .inl ⟨wanted_none rfl _, fun K hK => ?_⟩
            have HK := Lib.hid hK
            clear hd hFm hK
            go_simp
            exact HK.out _ _ rfl (Below.refl _ _)
          simp only [List.nil_append, List.cons_append]
          apply step_fix
          · intro a W Zs hS hFm hz hd
            have h45 := ev_get hFm.size (hd 4 45 rfl rfl)
            have h47 := ev_get hFm.size (hd 6 47 rfl rfl)
            refine .inl ⟨wanted_none rfl _, fun K hK => ?_⟩
            have HK := Lib.hid hK
            clear hd hFm hK
            go_simp
            exact HK.out _ _ rfl (Below.refl _ _)
          simp only [List.nil_append, List.cons_append]
          apply step_fix
          · intro a W Zs hS hFm hz hd
            have h5 := hFm.old 5 rfl
            conv at h5 => rhs; whnf
            replace h5 := ev_get hFm.size h5
            refine .inl ⟨wanted_none rfl _, fun K hK => ?_⟩
            have HK := Lib.hid hK
            clear hd hFm hK
            go_simp
            exact HK.out _ _ rfl (Below.refl _ _)
          simp only [List.nil_append, List.cons_append]
          apply step_fix
          · intro a W Zs hS hFm hz hd
            have h48 := ev_get hFm.size (hd 7 48 rfl rfl)
            have h49 := ev_get hFm.size (hd 8 49 rfl rfl)
            refine .inl ⟨wanted_none rfl _, fun K hK => ?_⟩
            have HK := Lib.hid hK
            clear hd hFm hK
            go_simp
            exact HK.out _ _ rfl (Below.refl _ _)
          simp only [List.nil_append, List.cons_append]
          apply step_fix
          · intro a W Zs hS hFm hz hd
            have h43 := ev_get hFm.size (hd 2 43 rfl rfl)
            have h50 := ev_get hFm.size (hd 9 50 rfl rfl)
            refine .inl ⟨wanted_none rfl _, fun K hK => ?_⟩
            have HK := Lib.hid hK
            clear hd hFm hK
            go_simp
            refine (HP.out _ (hAm.drew1.later hS)).mono ?_
            rintro e W' ⟨rfl, hb⟩
            exact HK.out _ _ rfl hb
          simp only [List.nil_append, List.cons_append]
          apply step_fix
          · intro a W Zs hS hFm hz hd
            have h2 := hFm.old 2 rfl
            conv at h2 => rhs; whnf
            replace h2 := ev_get hFm.size h2
            refine .inl ⟨wanted_none rfl _, fun K hK => ?_⟩
            have HK := Lib.hid hK
            clear hd hFm hK
            go_simp
            exact HK.out _ _ rfl (Below.refl _ _)
          simp only [List.nil_append, List.cons_append]
          apply step_fix
          · intro a W Zs hS hFm hz hd
            have h3 := hFm.old 3 rfl
            conv at h3 => rhs; whnf
            replace h3 := ev_get hFm.size h3
            refine .inl ⟨wanted_none rfl _, fun K hK => ?_⟩
            have HK := Lib.hid hK
            clear hd hFm hK
            go_simp
            exact HK.out _ _ rfl (Below.refl _ _)
          simp only [List.nil_append, List.cons_append]
          apply step_fix
          · intro a W Zs hS hFm hz hd
            have h6 := hFm.old 6 rfl
            conv at h6 => rhs; whnf
            replace h6 := ev_get hFm.size h6
            refine .inl ⟨wanted_none rfl _, fun K hK => ?_⟩
            have HK := Lib.hid hK
            clear hd hFm hK
            go_simp
            exact HK.out _ _ rfl (Below.refl _ _)
          simp only [List.nil_append, List.cons_append]
          apply step_fix
          · intro a W Zs hS hFm hz hd
            have h41 := ev_get hFm.size (hd 0 41 rfl rfl)
            have h51 := ev_get hFm.size (hd 10 51 rfl rfl)
            have h52 := ev_get hFm.size (hd 11 52 rfl rfl)
            have h53 := ev_get hFm.size (hd 12 53 rfl rfl)
            have h54 := ev_get hFm.size (hd 13 54 rfl rfl)
            refine .inl ⟨wanted_none rfl _, fun K hK => ?_⟩
            have HK := Lib.hid hK
            clear hd hFm hK
            go_simp
            refine (HM.out _).mono ?_
            rintro e W' ⟨rfl, hb⟩
            exact HK.out _ _ rfl hb
          simp only [List.nil_append, List.cons_append]
          apply step_fix
          · intro a W Zs hS hFm hz hd
            have h55 := ev_get hFm.size (hd 14 55 rfl rfl)
            refine .inl ⟨wanted_none rfl _, fun K hK => ?_⟩
            have HK := Lib.hid hK
            clear hd hFm hK
            go_simp
            exact HK.out _ _ rfl (Below.refl _ _)
          simp only [List.nil_append, List.cons_append]
          intro a wj Zs hS hFm hz hd
          have e14 := hd 15 14 (by decide) rfl
          have e0 := hFm.old 0 rfl
          conv at e0 => rhs; whnf
          have e1 := hFm.old 1 rfl
          conv at e1 => rhs; whnf
          have e2 := hFm.old 2 rfl
          conv at e2 => rhs; whnf
          have e3 := hFm.old 3 rfl
          conv at e3 => rhs; whnf
          have e4 := hFm.old 4 rfl
          conv at e4 => rhs; whnf
          have e5 := hFm.old 5 rfl
          conv at e5 => rhs; whnf
          have e6 := hFm.old 6 rfl
          conv at e6 => rhs; whnf
          have e7 := hFm.old 7 rfl
          conv at e7 => rhs; whnf
          have e8 := hFm.old 8 rfl
          conv at e8 => rhs; whnf
          have e9 := hFm.old 9 rfl
          conv at e9 => rhs; whnf
          have e10 := hFm.old 10 rfl
          conv at e10 => rhs; whnf
          have e11 := hFm.old 11 rfl
          conv at e11 => rhs; whnf
          have e12 := hFm.old 12 rfl
          conv at e12 => rhs; whnf
          have e13 := hFm.old 13 rfl
          conv at e13 => rhs; whnf
          have e15 := hFm.old 15 rfl
          conv at e15 => rhs; whnf
          have e16 := hFm.old 16 rfl
          conv at e16 => rhs; whnf
          have e17 := hFm.old 17 rfl
          conv at e17 => rhs; whnf
          have e18 := hFm.old 18 rfl
          conv at e18 => rhs; whnf
          have e19 := hFm.old 19 rfl
          conv at e19 => rhs; whnf
          have e20 := hFm.old 20 rfl
          conv at e20 => rhs; whnf
          have e21 := hFm.old 21 rfl
          conv at e21 => rhs; whnf
          have e22 := hFm.old 22 rfl
          conv at e22 => rhs; whnf
          have e23 := hFm.old 23 rfl
          conv at e23 => rhs; whnf
          have e24 := hFm.old 24 rfl
          conv at e24 => rhs; whnf
          have e25 := hFm.old 25 rfl
          conv at e25 => rhs; whnf
          have e26 := hFm.old 26 rfl
          conv at e26 => rhs; whnf
          have e27 := hFm.old 27 rfl
          conv at e27 => rhs; whnf
          have e28 := hFm.old 28 rfl
          conv at e28 => rhs; whnf
          have e29 := hFm.old 29 rfl
          conv at e29 => rhs; whnf
          have e30 := hFm.old 30 rfl
          conv at e30 => rhs; whnf
          have e31 := hFm.old 31 rfl
          conv at e31 => rhs; whnf
          have e32 := hFm.old 32 rfl
          conv at e32 => rhs; whnf
          have e33 := hFm.old 33 rfl
          conv at e33 => rhs; whnf
          have e34 := hFm.old 34 rfl
          conv at e34 => rhs; whnf
          have e35 := hFm.old 35 rfl
          conv at e35 => rhs; whnf
          have e36 := hFm.old 36 rfl
          conv at e36 => rhs; whnf
          have e37 := hFm.old 37 rfl
          conv at e37 => rhs; whnf
          have e38 := hFm.old 38 rfl
          conv at e38 => rhs; whnf
          have e39 := hFm.old 39 rfl
          conv at e39 => rhs; whnf
          have e40 := hFm.old 40 rfl
          conv at e40 => rhs; whnf
          have hsz := hFm.size
          have hdf := hFm.defers
          clear hd hFm
          obtain ⟨t, df⟩ := a
          simp only at hsz hdf
          subst hdf
          obtain ⟨x, hx⟩ : ∃ x : Nat → Value, ∀ i, t.getD i undef = x i := ⟨fun i => t.getD i undef, fun _ => rfl⟩
          have h14 := (hx 14).symm.trans e14
          have h0 := (hx 0).symm.trans e0
          have h1 := (hx 1).symm.trans e1
          have h2 := (hx 2).symm.trans e2
          have h3 := (hx 3).symm.trans e3
          have h4 := (hx 4).symm.trans e4
          have h5 := (hx 5).symm.trans e5
          have h6 := (hx 6).symm.trans e6
          have h7 := (hx 7).symm.trans e7
          have h8 := (hx 8).symm.trans e8
          have h9 := (hx 9).symm.trans e9
          have h10 := (hx 10).symm.trans e10
          have h11 := (hx 11).symm.trans e11
          have h12 := (hx 12).symm.trans e12
          have h13 := (hx 13).symm.trans e13
          have h15 := (hx 15).symm.trans e15
          have h16 := (hx 16).symm.trans e16
          have h17 := (hx 17).symm.trans e17
          have h18 := (hx 18).symm.trans e18
          have h19 := (hx 19).symm.trans e19
          have h20 := (hx 20).symm.trans e20
          have h21 := (hx 21).symm.trans e21
          have h22 := (hx 22).symm.trans e22
          have h23 := (hx 23).symm.trans e23
          have h24 := (hx 24).symm.trans e24
          have h25 := (hx 25).symm.trans e25
          have h26 := (hx 26).symm.trans e26
          have h27 := (hx 27).symm.trans e27
          have h28 := (hx 28).symm.trans e28
          have h29 := (hx 29).symm.trans e29
          have h30 := (hx 30).symm.trans e30
          have h31 := (hx 31).symm.trans e31
          have h32 := (hx 32).symm.trans e32
          have h33 := (hx 33).symm.trans e33
          have h34 := (hx 34).symm.trans e34
          have h35 := (hx 35).symm.trans e35
          have h36 := (hx 36).symm.trans e36
          have h37 := (hx 37).symm.trans e37
          have h38 := (hx 38).symm.trans e38
          have h39 := (hx 39).symm.trans e39
          have h40 := (hx 40).symm.trans e40
          have ht' : t = #[x 0, x 1, x 2, x 3, x 4, x 5, x 6, x 7, x 8, x 9, x 10, x 11, x 12, x 13, x 14, x 15, x 16, x 17, x 18, x 19, x 20, x 21, x 22, x 23, x 24, x 25, x 26, x 27, x 28, x 29, x 30, x 31, x 32, x 33, x 34, x 35, x 36, x 37, x 38, x 39, x 40, x 41, x 42, x 43, x 44, x 45, x 46, x 47, x 48, x 49, x 50, x 51, x 52, x 53, x 54, x 55] := frame_lit t 56 hsz x hx
          clear hx hsz hz e14 e0 e1 e2 e3 e4 e5 e6 e7 e8 e9 e10 e11 e12 e13 e15 e16 e17 e18 e19 e20 e21 e22 e23 e24 e25 e26 e27 e28 e29 e30 e31 e32 e33 e34 e35 e36 e37 e38 e39 e40
          subst ht'
          (try dsimp only)
          rw [h14, h0, h1, h2, h3, h4, h5, h6, h7, h8, h9, h10, h11, h12, h13, h15, h16, h17, h18, h19, h20, h21, h22, h23, h24, h25, h26, h27, h28, h29, h30, h31, h32, h33, h34, h35, h36, h37, h38, h39, h40]
          clear h14 h0 h1 h2 h3 h4 h5 h6 h7 h8 h9 h10 h11 h12 h13 h15 h16 h17 h18 h19 h20 h21 h22 h23 h24 h25 h26 h27 h28 h29 h30 h31 h32 h33 h34 h35 h36 h37 h38 h39 h40
          have hb1 := from_drew hS
          go_wp2
          go_ret
          exact ⟨ret_str HE.out.symm, hB0.trans (hb1.mono hB0.size)⟩

end Go.Proofs.YthhmedlefahccaaGreatDoor
/-
  Contracts of package spread, first part: what stands at a place, directions, the wave's box, what it marks as reached, who compares, how a node lets in.
-/
namespace Go.Proofs.YthhmedlefahccaaGreatDoor
open Go.RowKit Plait
set_option maxRecDepth 100000
set_option linter.unusedVariables false
set_option linter.unusedSimpArgs false

theorem wisDir_any (d : Int) (w : World) (h : d = 1 ∨ d = -1) :
    Calls Tryz.prog 55 #[.int .i64 d] w fun e w' => e = .returned (.bool true) ∧ w = w' := by
  rcases h with rfl | rfl
  · go_enter Tryz.func55, Tryz.ntmps55
    go_wp2
    go_ret
    exact ⟨rfl, rfl⟩
  · go_enter Tryz.func55, Tryz.ntmps55
    go_wp2
    go_ret
    exact ⟨rfl, rfl⟩

/-- The element at a place. -/
theorem watI_any (a : Option Addr) (zs : List Int) (cap k : Nat) (w : World) (h : Row w a zs) (hk : k < zs.length) :
    Calls Tryz.prog 78 #[.slice a zs.length cap, .int .i64 k] w fun e w' => e = .returned (.int .i64 (zs.getD k 0)) ∧ w = w' := by
  have hl := h.1
  obtain ⟨b, off, rfl, hbl, hcell, -, -⟩ := h.get k hk
  have HE := Lib.hid (show zs.getD k 0 = zs[k] by rw [List.getD_eq_getElem?_getD, List.getElem?_eq_getElem hk]; rfl)
  generalize zs[k] = z at *
  have d1 : decide (k < zs.length) = true := by simpa using hk
  have d2 : decide ((k : Int) < (zs.length : Int)) = true := by simp; omega
  have g0 : (0 : Int) ≤ (k : Int) := by omega
  have g1 : (k : Int) < (zs.length : Int) := by omega
  generalize zs.length = n at *
  go_enter Tryz.func78, Tryz.ntmps78
  go_wp2
  go_ret
  exact ⟨ret_int HE.out.symm, rfl⟩

theorem watS_any (a : Option Addr) (ls : List (List UInt8)) (cap k : Nat) (w : World) (h : RowS w a ls) (hk : k < ls.length) :
    Calls Tryz.prog 59 #[.slice a ls.length cap, .int .i64 k] w fun e w' => e = .returned (.string ⟨(ls.getD k []).toArray⟩) ∧ w = w' := by
  have hl := h.1
  obtain ⟨b, off, rfl, hbl, hcell⟩ := h.get k hk
  have HE := Lib.hid (show ls.getD k [] = ls[k] by rw [List.getD_eq_getElem?_getD, List.getElem?_eq_getElem hk]; rfl)
  generalize ls[k] = z at *
  have d1 : decide (k < ls.length) = true := by simpa using hk
  have d2 : decide ((k : Int) < (ls.length : Int)) = true := by simp; omega
  have g0 : (0 : Int) ≤ (k : Int) := by omega
  have g1 : (k : Int) < (ls.length : Int) := by omega
  generalize ls.length = n at *
  go_enter Tryz.func59, Tryz.ntmps59
  go_wp2
  go_ret
  exact ⟨by rw [HE.out]; rfl, rfl⟩

/-- A slot on its way round, as it lies in memory: the network, the locus, round, slot, direction, states, clocks; the wave's block, that of the sides, how many. -/
structure Wv where
  c : Cf
  ca : Option Addr
  cc : Nat
  f : Fa
  fa : Option Addr
  fac : Nat
  fd : Option Addr
  fdc : Nat
  r : Int
  s : Int
  d : Int
  sa : Option Addr
  st : List Int
  sc : Nat
  va : Option Addr
  dv : List Int
  vc : Nat
  bw : Nat
  bo : Nat
  n : Nat

def Wv.box (x : Wv) (K : Nat → Bool) : Array Value :=
  #[.int .i64 x.c.N, .int .i64 x.c.Pi, .int .i64 x.c.E, .int .i64 x.c.G, .int .i64 x.c.F, .slice x.ca x.c.P.length x.cc,
    .int .i64 x.f.K, .int .i64 x.f.At, .int .i64 x.f.F, .int .i64 x.f.To, .slice x.fa x.f.A.length x.fac, .slice x.fd x.f.D.length x.fdc,
    .int .i64 x.r, .int .i64 x.s, .int .i64 x.d, .slice x.sa x.st.length x.sc, .slice x.va x.dv.length x.vc, .slice (some ⟨x.bo, 0, none⟩) x.n x.n,
    .bool (K 0), .bool (K 1), .bool (K 2), .bool (K 3), .bool (K 4), .bool (K 5), .bool (K 6), .bool (K 7), .bool (K 8), .bool (K 9), .bool (K 10), .bool (K 11)]

theorem Wv.box_at (x : Wv) (K : Nat → Bool) (i : Nat) (h : i < 12) : (x.box K)[18 + i]? = some (.bool (K i)) := by
  have h' : i = 0 ∨ i = 1 ∨ i = 2 ∨ i = 3 ∨ i = 4 ∨ i = 5 ∨ i = 6 ∨ i = 7 ∨ i = 8 ∨ i = 9 ∨ i = 10 ∨ i = 11 := by omega
  rcases h' with rfl | rfl | rfl | rfl | rfl | rfl | rfl | rfl | rfl | rfl | rfl | rfl <;> rfl
theorem Wv.box_set (x : Wv) (K : Nat → Bool) (i : Nat) (h : i < 12) (v : Bool) : (x.box K).setIfInBounds (18 + i) (.bool v) = x.box (updN K i v) := by
  have h' : i = 0 ∨ i = 1 ∨ i = 2 ∨ i = 3 ∨ i = 4 ∨ i = 5 ∨ i = 6 ∨ i = 7 ∨ i = 8 ∨ i = 9 ∨ i = 10 ∨ i = 11 := by omega
  rcases h' with rfl | rfl | rfl | rfl | rfl | rfl | rfl | rfl | rfl | rfl | rfl | rfl <;> rfl

/-- What holds while it goes round; w: the world at the start, in which what came in lies. -/
structure WvM (x : Wv) (w : World) (G : (Nat → Sd) × (Nat → Bool)) (W : World) : Prop where
  hB : Below w.heap.size w W
  lw : w.heap.size ≤ x.bw
  lo : w.heap.size ≤ x.bo
  ne : x.bo ≠ x.bw
  wv : Blk W x.bw 96 (x.box G.2)
  o : ∃ M, Blk W x.bo 53 M ∧ SdM M x.n G.1

theorem WvM.later {x : Wv} {w : World} {G : (Nat → Sd) × (Nat → Bool)} {W W' : World} (h : WvM x w G W) (hb : Below W.heap.size W W') : WvM x w G W' := by
  obtain ⟨M, q1, q2⟩ := h.o
  exact ⟨h.hB.trans (hb.mono h.hB.size), h.lw, h.lo, h.ne, h.wv.later hb, ⟨M, q1.later hb, q2⟩⟩

/-- Two blocks may change. -/
def Two (b1 b2 : Nat) (W W' : World) : Prop := W.heap.size ≤ W'.heap.size ∧ ∀ i, i < W.heap.size → i ≠ b1 → i ≠ b2 → W'.heap[i]? = W.heap[i]?
theorem Two.cell {b1 b2 : Nat} {W W' : World} (h : Two b1 b2 W W') (b o : Nat) (hb : b < W.heap.size) (h1 : b ≠ b1) (h2 : b ≠ b2) : W'.cell? ⟨b, o, none⟩ = W.cell? ⟨b, o, none⟩ := by
  unfold World.cell?
  show (match W'.heap[b]? with | some (.cells c _ _) => _ | _ => _) = _
  rw [h.2 b hb h1 h2]
  rfl
theorem Two.of {b1 b2 B : Nat} {W W' : World} (hb : Below B W W') (hB : W.heap.size ≤ B) : Two b1 b2 W W' := ⟨hb.size, fun i hi _ _ => hb.block i (by omega)⟩
theorem Two.trans {b1 b2 : Nat} {a b c : World} (h : Two b1 b2 a b) (k : Two b1 b2 b c) : Two b1 b2 a c :=
  ⟨Nat.le_trans h.1 k.1, fun i hi h1 h2 => (k.2 i (Nat.lt_of_lt_of_le hi h.1) h1 h2).trans (h.2 i hi h1 h2)⟩
theorem Row.two {w w' : World} {a : Option Addr} {zs : List Int} {b1 b2 : Nat} (h : Row w a zs) (hp : Apart a zs b1 b2) (ht : Two b1 b2 w w') : Row w' a zs := by
  rcases hp with rfl | ⟨b, off, rfl, n1, n2⟩
  · exact Row.empty _ _
  · obtain ⟨h1, h2, h3⟩ := h
    refine ⟨h1, h2, ?_⟩
    rcases h3 with h3 | ⟨b', off', e, hlt, hc⟩
    · exact .inl h3
    · injection e with e
      injection e with e1 e2
      subst e1 e2
      exact .inr ⟨b, off, rfl, Nat.lt_of_lt_of_le hlt ht.1, fun i hi => by rw [ht.cell b _ hlt n1 n2]; exact hc i hi⟩

/-- A node is reached: its side laid, its mark set. -/
theorem WvM.reach {x : Wv} {w : World} {G : (Nat → Sd) × (Nat → Bool)} {W W' : World} (h : WvM x w G W) (j : Nat) (hj : j < x.n) (h12 : x.n ≤ 12) (v : Sd)
    (h1 : Below w.heap.size w W') (h2 : Blk W' x.bw 96 ((x.box G.2).setIfInBounds (18 + j) (.bool true)))
    (h3 : ∃ M, Blk W x.bo 53 M ∧ Blk W' x.bo 53 ((((M.setIfInBounds (j * 4) (.string ⟨v.D.toArray⟩)).setIfInBounds (j * 4 + 1) (.string ⟨v.S.toArray⟩)).setIfInBounds (j * 4 + 2) (.string ⟨v.O.toArray⟩)).setIfInBounds (j * 4 + 3) (.int .i64 v.F))) :
    WvM x w (updN G.1 j v, updN G.2 j true) W' := by
  obtain ⟨M, q1, q2⟩ := h.o
  obtain ⟨M', p1, p2⟩ := h3
  have e : M' = M := by
    unfold Blk at p1 q1
    rw [p1] at q1
    injection q1 with q1
    injection q1
  subst e
  refine ⟨h1, h.lw, h.lo, h.ne, ?_, ⟨_, p2, q2.setAll j hj v⟩⟩
  rw [Wv.box_set _ _ _ (by omega)] at h2
  exact h2

end Go.Proofs.YthhmedlefahccaaGreatDoor
/-
  Contracts of package spread, second part: who compares, how a node lets in, a node that is reached.
-/
namespace Go.Proofs.YthhmedlefahccaaGreatDoor
open Go.RowKit Plait
set_option maxRecDepth 100000
set_option linter.unusedVariables false
set_option linter.unusedSimpArgs false

theorem winput_g (w : World) :
    Calls Tryz.prog 88 #[.int .i64 1, .int .i64 1] w fun e w' => e = .returned (.func (.func 98) #[] #[]) ∧ w = w' := by
  go_enter Tryz.func88, Tryz.ntmps88
  go_wp2
  go_ret
  exact ⟨rfl, rfl⟩
theorem winput_2 (far : Int) (w : World) :
    Calls Tryz.prog 88 #[.int .i64 far, .int .i64 2] w fun e w' => e = .returned (.func (.func 99) #[] #[]) ∧ w = w' := by
  by_cases h : far = 1
  · subst h
    go_enter Tryz.func88, Tryz.ntmps88
    go_wp2
    go_ret
    exact ⟨rfl, rfl⟩
  · have d1 : (far == 1) = false := by simpa using h
    go_enter Tryz.func88, Tryz.ntmps88
    go_wp2
    go_ret
    exact ⟨rfl, rfl⟩
theorem winput_o (far : Int) (w : World) (h : far ≠ 1) :
    Calls Tryz.prog 88 #[.int .i64 far, .int .i64 1] w fun e w' => e = .returned (.func (.func 99) #[] #[]) ∧ w = w' := by
  have d1 : (far == 1) = false := by simpa using h
  go_enter Tryz.func88, Tryz.ntmps88
  go_wp2
  go_ret
  exact ⟨rfl, rfl⟩

theorem wcompares_any (x : Wv) (w : World) (G : (Nat → Sd) × (Nat → Bool)) (W : World) (hM : WvM x w G W) (k : Nat) (cm : Bool) (hk : k < 12) (hcm : cm = (decide (0 < k) || decide (x.c.N ≤ x.s))) :
    Calls Tryz.prog 80 #[.pointer (some ⟨x.bw, 0, none⟩), .int .i64 ((k : Int) + 1)] W fun e w' => e = .returned (.bool cm) ∧ Below W.heap.size W w' := by
  have hq := hM.wv.at
  unfold Wv.box at hq
  clear hM
  by_cases h0 : k = 0
  · subst h0
    by_cases hs : x.s < x.c.N
    · have d1 : decide (x.s < x.c.N) = true := by simpa using hs
      have HC := Lib.hid (show cm = false by rw [hcm]; simp; omega)
      clear hs hcm
      go_enter Tryz.func80, Tryz.ntmps80
      go_wp2
      go_quiet (fail)
      go_wp2
      go_ret
      exact ⟨ret_bool HC.out.symm, below_drewN (Below.refl _ _) _⟩
    · have d1 : decide (x.s < x.c.N) = false := by simpa using hs
      have HC := Lib.hid (show cm = true by rw [hcm]; simp; omega)
      clear hs hcm
      go_enter Tryz.func80, Tryz.ntmps80
      go_wp2
      go_quiet (fail)
      go_wp2
      go_ret
      exact ⟨ret_bool HC.out.symm, below_drewN (Below.refl _ _) _⟩
  · have d2 : ((k : Int) + 1 != 1) = true := by simp; omega
    have HC := Lib.hid (show cm = true by rw [hcm, show decide (0 < k) = true by simp; omega]; rfl)
    clear hcm
    cases d1 : decide (x.s < x.c.N)
    · go_enter Tryz.func80, Tryz.ntmps80
      go_wp2
      go_quiet (fail)
      go_wp2
      go_ret
      exact ⟨ret_bool HC.out.symm, below_drewN (Below.refl _ _) _⟩
    · go_enter Tryz.func80, Tryz.ntmps80
      go_wp2
      go_quiet (fail)
      go_wp2
      go_ret
      exact ⟨ret_bool HC.out.symm, below_drewN (Below.refl _ _) _⟩

/-- What reaching a node leaves. -/
def ReachRet (x : Wv) (w : World) (G : (Nat → Sd) × (Nat → Bool)) (j : Nat) (v : Sd) (W : World) (e : Ending) (W' : World) : Prop :=
  e = .returned (.tuple #[]) ∧ WvM x w (updN G.1 j v, updN G.2 j true) W' ∧ Two x.bo x.bw W W'

theorem setCell_off (g i : Nat) (u : Value) (W : World) (b1 b2 : Nat) (hg : g = b1 ∨ g = b2) : Two b1 b2 W (W.setCell ⟨g, i, none⟩ u) :=
  ⟨by simp [World.setCell], fun k _ h1 h2 => Below.heap_setCell W ⟨g, i, none⟩ u k (by show k ≠ g; omega)⟩

set_option maxHeartbeats 3200000 in
theorem wreach_any (x : Wv) (w : World) (G : (Nat → Sd) × (Nat → Bool)) (W : World) (hM : WvM x w G W) (j : Nat) (hj : j < x.n) (h12 : x.n ≤ 12) (v : Sd) :
    Calls Tryz.prog 57 #[.pointer (some ⟨x.bw, 0, none⟩), .int .i64 j, .agg #[.string ⟨v.D.toArray⟩, .string ⟨v.S.toArray⟩, .string ⟨v.O.toArray⟩, .int .i64 v.F]] W (ReachRet x w G j v W) := by
  have hab := alloc_below W (.cells #[.string ⟨v.D.toArray⟩, .string ⟨v.S.toArray⟩, .string ⟨v.O.toArray⟩, .int .i64 v.F] 53)
  have hT0 : Two x.bo x.bw W (W.alloc (.cells #[.string ⟨v.D.toArray⟩, .string ⟨v.S.toArray⟩, .string ⟨v.O.toArray⟩, .int .i64 v.F] 53)) := Two.of hab (Nat.le_refl _)
  have hM1 := hM.later hab
  have hX : Blk (W.alloc (.cells #[.string ⟨v.D.toArray⟩, .string ⟨v.S.toArray⟩, .string ⟨v.O.toArray⟩, .int .i64 v.F] 53)) W.heap.size 53 #[.string ⟨v.D.toArray⟩, .string ⟨v.S.toArray⟩, .string ⟨v.O.toArray⟩, .int .i64 v.F] := Blk.new W _ _
  obtain ⟨M, hO, hS⟩ := hM.o
  have l1 : W.heap.size ≠ x.bo := by have := hO.lt; omega
  have l2 : W.heap.size ≠ x.bw := by have := hM.wv.lt; omega
  clear hO hS M hM hab
  obtain ⟨M, hO, hS⟩ := hM1.o
  have HM := Lib.hid hM1
  have hq := hM1.wv.at
  have hf := hM1.wv.frozen
  have hqo := hO.at
  have hfo := hO.frozen
  have hqx := hX.at
  obtain ⟨c0, c1, c2, c3⟩ := hS.2 j hj
  have hqm := Wv.box_at x G.2 j (by omega)
  have hbw := hM1.wv
  have ne1 := hM1.ne
  have g0 : (0 : Int) ≤ (j : Int) := by omega
  have g1 : (j : Int) < (x.n : Int) := by omega
  have g2 : (j : Int) < 12 := by omega
  have hsz : M.size = x.n * 4 := hS.1
  clear hM1 hS
  have hbx : (x.box G.2)[17]? = some (.slice (some ⟨x.bo, 0, none⟩) x.n x.n) := rfl
  generalize hWW : W.alloc (.cells #[.string ⟨v.D.toArray⟩, .string ⟨v.S.toArray⟩, .string ⟨v.O.toArray⟩, .int .i64 v.F] 53) = W1 at *
  go_enter Tryz.func57, Tryz.ntmps57
  go_upto_region 1 with fail
  clear hWW
  go_region
  have hBB := HM.out.hB
  have lw := HM.out.lw
  have lo := HM.out.lo
  have hs := HM.out.reach (W' := (((((W1.setCell ⟨x.bo, j * 4, none⟩ (.string ⟨v.D.toArray⟩)).setCell ⟨x.bo, j * 4 + 1, none⟩ (.string ⟨v.S.toArray⟩)).setCell ⟨x.bo, j * 4 + 2, none⟩ (.string ⟨v.O.toArray⟩)).setCell ⟨x.bo, j * 4 + 3, none⟩ (.int .i64 v.F)).setCell ⟨x.bw, 18 + j, none⟩ (.bool true)).drew) j hj h12 v
    (((((hBB.setCell (p := ⟨x.bo, _, none⟩) lo _).setCell (p := ⟨x.bo, _, none⟩) lo _).setCell (p := ⟨x.bo, _, none⟩) lo _).setCell (p := ⟨x.bo, _, none⟩) lo _).setCell (p := ⟨x.bw, _, none⟩) lw _).drew
    (((((hbw.far (p := ⟨x.bo, _, none⟩) (Ne.symm ne1) _).far (p := ⟨x.bo, _, none⟩) (Ne.symm ne1) _).far (p := ⟨x.bo, _, none⟩) (Ne.symm ne1) _).far (p := ⟨x.bo, _, none⟩) (Ne.symm ne1) _).set _ _).drew1
    ⟨M, hO, (((((hO.set _ _).set _ _).set _ _).set _ _).far (p := ⟨x.bw, _, none⟩) ne1 _).drew1⟩
  have ht := ((((hT0.trans (setCell_off x.bo (j * 4) (.string ⟨v.D.toArray⟩) W1 x.bo x.bw (.inl rfl))).trans (setCell_off x.bo (j * 4 + 1) (.string ⟨v.S.toArray⟩) _ x.bo x.bw (.inl rfl))).trans (setCell_off x.bo (j * 4 + 2) (.string ⟨v.O.toArray⟩) _ x.bo x.bw (.inl rfl))).trans (setCell_off x.bo (j * 4 + 3) (.int .i64 v.F) _ x.bo x.bw (.inl rfl))).trans (setCell_off x.bw (18 + j) (.bool true) _ x.bo x.bw (.inr rfl))
  clear hq hf hqo hfo hqx hqm hbx c0 c1 c2 c3 hsz
  go_end0
  exact ⟨rfl, hs, ht⟩

end Go.Proofs.YthhmedlefahccaaGreatDoor
/-
  How long what is sent may be; what a slot's run answers.
-/
namespace Go.Proofs.YthhmedlefahccaaGreatDoor
open Go.RowKit Plait
set_option maxRecDepth 100000
set_option linter.unusedVariables false

theorem slots_15 {c : Cf} (h : c.Ok) : slotsI c ≤ 15 := by
  have h1 := h.n12; have h2 := h.len
  unfold slotsI
  omega

theorem frame_len {c : Cf} {g : Fr} (hc : c.Ok) (h : g.Ok c) : (textF g).length ≤ 201 := by
  have h1 := h.len
  have h2 := slots_15 hc
  rw [textF_length]
  unfold echoI at h1
  split at h1 <;> omega

theorem emitL_len (c : Cf) (f : Fa) (r s a b : Int) (l : List UInt8) (hc : c.Ok) (s0 : 0 ≤ s) (s1 : s < slotsI c) (hl : l.length ≤ 2000) (ht : ∀ x ∈ f.A, x.T.length ≤ 2000) : (emitL c f r s a b l).length ≤ 2000 := by
  have hT : ∀ n, (pickA f.A n).T.length ≤ 2000 := by
    intro n
    unfold pickA
    rw [List.getD_eq_getElem?_getD]
    cases hq : f.A[(n % (f.A.length : Int)).toNat]? with
    | none => show (default : Ac).T.length ≤ 2000; decide
    | some x => exact ht x (List.mem_of_getElem? hq)
  have hcl : ∀ x : List UInt8, (clean x).length ≤ x.length := fun x => by rw [Plait.clean_len]; exact slen_le x
  obtain ⟨hd, hk⟩ := dataF_ok c r s l hc s0 s1
  unfold emitL
  split
  · exact hl
  · split
    · simp
    · generalize hp : pickA f.A (17 * r + 5 * s + b) = t
      have ht2 := hT (17 * r + 5 * s + b)
      rw [hp] at ht2
      unfold actL
      split
      · exact hl
      · split
        · rw [List.length_take]; omega
        · split
          · exact Nat.le_trans (hcl _) ht2
          · split
            · unfold turnedL
              split
              · simp
              · refine Nat.le_trans (hcl _) ?_
                unfold turn
                split
                · rw [List.length_set]; exact hl
                · exact hl
            · split
              · exact Nat.le_trans (frame_len hc (payF_ok hd hk _)) (by omega)
              · split
                · exact Nat.le_trans (frame_len hc (echF_ok hd _)) (by omega)
                · simp

theorem em_len (c : Cf) (f : Fa) (r s a b : Int) (l : List UInt8) (hc : c.Ok) (s0 : 0 ≤ s) (s1 : s < slotsI c) (hl : l.length ≤ 2000) (ht : ∀ x ∈ f.A, x.T.length ≤ 2000) : (clean (emitL c f r s a b l)).length ≤ 2000 := by
  have := emitL_len c f r s a b l hc s0 s1 hl ht
  rw [Plait.clean_len]
  have := slen_le (emitL c f r s a b l)
  omega

theorem made_cell (z : Array Value) (n j : Nat) (h : j < n) : (madeCells z n)[j]? = some (z[j % z.size]!) := by
  unfold madeCells
  simp [h]

/-- What a slot's run answers. -/
def SideRet (t : TypeId) (n : Nat) (g : Nat → Sd) (w : World) (e : Ending) (w' : World) : Prop :=
  ∃ (b : Nat) (M : Array Value), e = .returned (.slice (some ⟨b, 0, none⟩) n n) ∧ w.heap.size ≤ b ∧ Blk w' b t M ∧ SdM M n g ∧ Below w.heap.size w w'

theorem wayR_in (n : Int) (os : List Int) (d : Int) (hn : 0 < n) (h12 : n ≤ 12) : (∀ z ∈ wayR n os d, 0 ≤ z ∧ z < n) ∧ (wayR n os d).length ≤ 12 := by
  unfold wayR
  split
  · simp
  · exact ⟨walkTo_in _ _ _ _ hn, by rw [walkTo_len]; omega⟩

theorem iniG_len (os : List Int) (sends : List (List UInt8)) (h : ∀ l ∈ sends, l.length ≤ 2000) : ∀ k i, ((iniG os sends k).1 i).O.length ≤ 2000
  | 0, i => by show ([] : List UInt8).length ≤ 2000; simp
  | k + 1, i => by
    have ih := iniG_len os sends h k
    show ((updN (iniG os sends k).1 (os.getD k 0).toNat { (iniG os sends k).1 (os.getD k 0).toNat with O := sends.getD k [] }) i).O.length ≤ 2000
    by_cases e : i = (os.getD k 0).toNat
    · subst e
      rw [updN_same]
      show (sends.getD k []).length ≤ 2000
      rw [List.getD_eq_getElem?_getD]
      cases hq : sends[k]? with
      | none => simp
      | some x => exact h x (List.mem_of_getElem? hq)
    · rw [updN_other _ _ _ _ e]
      exact ih i

theorem updO_len {g : Nat → Sd} {j : Nat} {v : Sd} (h : ∀ i, (g i).O.length ≤ 2000) (hv : v.O.length ≤ 2000) (i : Nat) : ((updN g j v) i).O.length ≤ 2000 := by
  by_cases e : i = j
  · subst e; rw [updN_same]; exact hv
  · rw [updN_other _ _ _ _ e]; exact h i

end Go.Proofs.YthhmedlefahccaaGreatDoor
