/-
  Contracts of package frame, second part: Check.
-/
import Derived.Test.YtbghpkdkfbpmeaaDev9
namespace Go.Proofs.Ytbghpkdkfbpmeaa
open Go.RowKit Plait
set_option maxRecDepth 100000
set_option linter.unusedVariables false

theorem badA_spec (c : Cf) (f : Fr) : badA c f = (!(decide (0 ≤ f.S) && decide (f.S < slotsI c)) || !(decide (0 ≤ f.R) && decide (f.R ≤ 65535))) := by
  unfold badA
  rw [show decide (f.S < 0) = !decide (0 ≤ f.S) by rw [← decide_not]; congr 1; exact propext ⟨by omega, by omega⟩, show decide (slotsI c ≤ f.S) = !decide (f.S < slotsI c) by rw [← decide_not]; congr 1; exact propext ⟨by omega, by omega⟩,
    show decide (f.R < 0) = !decide (0 ≤ f.R) by rw [← decide_not]; congr 1; exact propext ⟨by omega, by omega⟩, show decide (65536 ≤ f.R) = !decide (f.R ≤ 65535) by rw [← decide_not]; congr 1; exact propext ⟨by omega, by omega⟩]
  cases decide (0 ≤ f.S) <;> cases decide (f.S < slotsI c) <;> cases decide (0 ≤ f.R) <;> cases decide (f.R ≤ 65535) <;> rfl

set_option maxHeartbeats 3200000 in
theorem fCheck_any (c : Cf) (ca : Option Addr) (cc : Nat) (f : Fr) (a : Option Addr) (cap : Nat) (w : World) (hc : c.Ok) (hE : RowT w a f.E) :
    Calls Try.prog 68 #[.agg #[.int .i64 c.N, .int .i64 c.Pi, .int .i64 c.E, .int .i64 c.G, .int .i64 c.F, .slice ca c.P.length cc], .agg #[.int .i64 f.K, .int .i64 f.R, .int .i64 f.S, .int .i64 f.P.K, .int .i64 f.P.V, .slice a f.E.length cap]] w fun e w' => e = .returned (.int .i64 (checkF c f)) ∧ Below w.heap.size w w' := by
  have hB : Below w.heap.size w ((w.alloc (.cells #[.int .i64 c.N, .int .i64 c.Pi, .int .i64 c.E, .int .i64 c.G, .int .i64 c.F, .slice ca c.P.length cc] 24)).alloc (.cells #[.int .i64 f.K, .int .i64 f.R, .int .i64 f.S, .int .i64 f.P.K, .int .i64 f.P.V, .slice a f.E.length cap] 82)) := (alloc_below w _).alloc (by simp) _
  have hC : Blk ((w.alloc (.cells #[.int .i64 c.N, .int .i64 c.Pi, .int .i64 c.E, .int .i64 c.G, .int .i64 c.F, .slice ca c.P.length cc] 24)).alloc (.cells #[.int .i64 f.K, .int .i64 f.R, .int .i64 f.S, .int .i64 f.P.K, .int .i64 f.P.V, .slice a f.E.length cap] 82)) w.heap.size 24 (confBox c ca cc) := (Blk.new w _ _).alloc _
  have hK : Blk ((w.alloc (.cells #[.int .i64 c.N, .int .i64 c.Pi, .int .i64 c.E, .int .i64 c.G, .int .i64 c.F, .slice ca c.P.length cc] 24)).alloc (.cells #[.int .i64 f.K, .int .i64 f.R, .int .i64 f.S, .int .i64 f.P.K, .int .i64 f.P.V, .slice a f.E.length cap] 82)) (w.heap.size + 1) 82 (frBox f a cap) := Blk.newAt _ _ (by simp)
  have hlen := hE.1
  replace hE := hE.later hB
  have HA := Lib.hid (badA_spec c f)
  have HSl := Lib.hid (fun W => fslotHolds_any c ca cc f.S W hc)
  have HRo := Lib.hid (fun W => froundHolds_any f.R W)
  have HKi := Lib.hid (fun W => fkindHolds_any c ca cc f a cap W)
  have HPa := Lib.hid (fun W => fpayHolds_any f a cap W)
  have HEc := Lib.hid (fun W => fechoes_any c ca cc f a cap W hc)
  generalize (decide (0 ≤ f.S) && decide (f.S < slotsI c)) = bs at *
  generalize (decide (0 ≤ f.R) && decide (f.R ≤ 65535)) = br at *
  cases bs
  · have HF := Lib.hid (checkF_a c f (by rw [HA.out]; rfl))
    go_enter Try.func68, Try.ntmps68
    go_wp2_with fail
    refine (HSl.out _).mono ?_
    rintro e wn ⟨rfl, hb⟩
    (try clear hQc hQf)
    replace hB := hB.trans (hb.mono hB.size)
    replace hC := hC.later hb
    replace hK := hK.later hb
    replace hE := hE.later hb
    have hQc := hC.at
    have hQf := hK.at
    unfold confBox at hQc
    unfold frBox at hQf
    clear hb
    go_wp2
    go_ret
    exact ⟨ret_int HF.out.symm, hB⟩
  cases br
  · have HF := Lib.hid (checkF_a c f (by rw [HA.out]; rfl))
    go_enter Try.func68, Try.ntmps68
    go_wp2_with fail
    refine (HSl.out _).mono ?_
    rintro e wn ⟨rfl, hb⟩
    (try clear hQc hQf)
    replace hB := hB.trans (hb.mono hB.size)
    replace hC := hC.later hb
    replace hK := hK.later hb
    replace hE := hE.later hb
    have hQc := hC.at
    have hQf := hK.at
    unfold confBox at hQc
    unfold frBox at hQf
    clear hb
    go_wp2_with fail
    refine (HRo.out _).mono ?_
    rintro e wl ⟨rfl, rfl⟩
    go_wp2
    go_ret
    exact ⟨ret_int HF.out.symm, hB⟩
  cases hk : badK c f
  rotate_left
  · have HF := Lib.hid (checkF_k c f (by rw [HA.out]; rfl) hk)
    rw [hk] at HKi
    go_enter Try.func68, Try.ntmps68
    go_wp2_with fail
    refine (HSl.out _).mono ?_
    rintro e wn ⟨rfl, hb⟩
    (try clear hQc hQf)
    replace hB := hB.trans (hb.mono hB.size)
    replace hC := hC.later hb
    replace hK := hK.later hb
    replace hE := hE.later hb
    have hQc := hC.at
    have hQf := hK.at
    unfold confBox at hQc
    unfold frBox at hQf
    clear hb
    go_wp2_with fail
    refine (HRo.out _).mono ?_
    rintro e wl ⟨rfl, rfl⟩
    go_wp2_with fail
    refine (HKi.out _).mono ?_
    rintro e wn ⟨rfl, hb⟩
    (try clear hQc hQf)
    replace hB := hB.trans (hb.mono hB.size)
    replace hC := hC.later hb
    replace hK := hK.later hb
    replace hE := hE.later hb
    have hQc := hC.at
    have hQf := hK.at
    unfold confBox at hQc
    unfold frBox at hQf
    clear hb
    go_wp2
    go_ret
    exact ⟨ret_int HF.out.symm, hB⟩
  rw [hk] at HKi
  cases hp : badP f
  rotate_left
  · have HF := Lib.hid (checkF_p c f (by rw [HA.out]; rfl) hk hp)
    rw [hp] at HPa
    go_enter Try.func68, Try.ntmps68
    go_wp2_with fail
    refine (HSl.out _).mono ?_
    rintro e wn ⟨rfl, hb⟩
    (try clear hQc hQf)
    replace hB := hB.trans (hb.mono hB.size)
    replace hC := hC.later hb
    replace hK := hK.later hb
    replace hE := hE.later hb
    have hQc := hC.at
    have hQf := hK.at
    unfold confBox at hQc
    unfold frBox at hQf
    clear hb
    go_wp2_with fail
    refine (HRo.out _).mono ?_
    rintro e wl ⟨rfl, rfl⟩
    go_wp2_with fail
    refine (HKi.out _).mono ?_
    rintro e wn ⟨rfl, hb⟩
    (try clear hQc hQf)
    replace hB := hB.trans (hb.mono hB.size)
    replace hC := hC.later hb
    replace hK := hK.later hb
    replace hE := hE.later hb
    have hQc := hC.at
    have hQf := hK.at
    unfold confBox at hQc
    unfold frBox at hQf
    clear hb
    go_wp2_with fail
    refine (HPa.out _).mono ?_
    rintro e wn ⟨rfl, hb⟩
    (try clear hQc hQf)
    replace hB := hB.trans (hb.mono hB.size)
    replace hC := hC.later hb
    replace hK := hK.later hb
    replace hE := hE.later hb
    have hQc := hC.at
    have hQf := hK.at
    unfold confBox at hQc
    unfold frBox at hQf
    clear hb
    go_wp2
    go_ret
    exact ⟨ret_int HF.out.symm, hB⟩
  rw [hp] at HPa
  by_cases hl : (f.E.length : Int) = echoI c f.K f.S
  · have HF := Lib.hid (checkF_e c f (by rw [HA.out]; rfl) hk hp hl)
    have d2 : ((f.E.length : Int) != echoI c f.K f.S) = false := by simpa using hl
    clear hl hk hp
    generalize echoI c f.K f.S = en at *
    have HCo := Lib.hid (fun W (h : RowT W a f.E) => fcontains_any a f.E cap W h)
    cases hx : f.E.all (itemB · false)
    all_goals
      rw [hx] at HF HCo
      clear hx
      go_enter Try.func68, Try.ntmps68
      go_wp2_with fail
      refine (HSl.out _).mono ?_
      rintro e wn ⟨rfl, hb⟩
      (try clear hQc hQf)
      replace hB := hB.trans (hb.mono hB.size)
      replace hC := hC.later hb
      replace hK := hK.later hb
      replace hE := hE.later hb
      have hQc := hC.at
      have hQf := hK.at
      unfold confBox at hQc
      unfold frBox at hQf
      clear hb
      go_wp2_with fail
      refine (HRo.out _).mono ?_
      rintro e wl ⟨rfl, rfl⟩
      go_wp2_with fail
      refine (HKi.out _).mono ?_
      rintro e wn ⟨rfl, hb⟩
      (try clear hQc hQf)
      replace hB := hB.trans (hb.mono hB.size)
      replace hC := hC.later hb
      replace hK := hK.later hb
      replace hE := hE.later hb
      have hQc := hC.at
      have hQf := hK.at
      unfold confBox at hQc
      unfold frBox at hQf
      clear hb
      go_wp2_with fail
      refine (HPa.out _).mono ?_
      rintro e wn ⟨rfl, hb⟩
      (try clear hQc hQf)
      replace hB := hB.trans (hb.mono hB.size)
      replace hC := hC.later hb
      replace hK := hK.later hb
      replace hE := hE.later hb
      have hQc := hC.at
      have hQf := hK.at
      unfold confBox at hQc
      unfold frBox at hQf
      clear hb
      go_wp2_with fail
      clear hQc hQf
      obtain ⟨I, F, i0, h0, hR, hcl⟩ := class_any wn (stable_and (stable_below w) (stable_and (stable_blk w.heap.size 24 (confBox c ca cc)) (stable_and (stable_blk (w.heap.size + 1) 82 (frBox f a cap)) (stable_rowT a f.E)))) ⟨hB, hC, hK, hE⟩
      have K_hB := Lib.hid (fun i => (hR i).1)
      have qhC0 : ∀ i, (F i).cell? ⟨w.heap.size, 0, none⟩ = some (.int .i64 c.N) := fun i => by rw [(hR i).2.1.at]; rfl
      have qhC1 : ∀ i, (F i).cell? ⟨w.heap.size, 1, none⟩ = some (.int .i64 c.Pi) := fun i => by rw [(hR i).2.1.at]; rfl
      have qhC2 : ∀ i, (F i).cell? ⟨w.heap.size, 2, none⟩ = some (.int .i64 c.E) := fun i => by rw [(hR i).2.1.at]; rfl
      have qhC3 : ∀ i, (F i).cell? ⟨w.heap.size, 3, none⟩ = some (.int .i64 c.G) := fun i => by rw [(hR i).2.1.at]; rfl
      have qhC4 : ∀ i, (F i).cell? ⟨w.heap.size, 4, none⟩ = some (.int .i64 c.F) := fun i => by rw [(hR i).2.1.at]; rfl
      have qhC5 : ∀ i, (F i).cell? ⟨w.heap.size, 5, none⟩ = some (.slice ca c.P.length cc) := fun i => by rw [(hR i).2.1.at]; rfl
      have K_hC := Lib.hid (fun i => (hR i).2.1)
      have qhK0 : ∀ i, (F i).cell? ⟨w.heap.size + 1, 0, none⟩ = some (.int .i64 f.K) := fun i => by rw [(hR i).2.2.1.at]; rfl
      have qhK1 : ∀ i, (F i).cell? ⟨w.heap.size + 1, 1, none⟩ = some (.int .i64 f.R) := fun i => by rw [(hR i).2.2.1.at]; rfl
      have qhK2 : ∀ i, (F i).cell? ⟨w.heap.size + 1, 2, none⟩ = some (.int .i64 f.S) := fun i => by rw [(hR i).2.2.1.at]; rfl
      have qhK3 : ∀ i, (F i).cell? ⟨w.heap.size + 1, 3, none⟩ = some (.int .i64 f.P.K) := fun i => by rw [(hR i).2.2.1.at]; rfl
      have qhK4 : ∀ i, (F i).cell? ⟨w.heap.size + 1, 4, none⟩ = some (.int .i64 f.P.V) := fun i => by rw [(hR i).2.2.1.at]; rfl
      have qhK5 : ∀ i, (F i).cell? ⟨w.heap.size + 1, 5, none⟩ = some (.slice a f.E.length cap) := fun i => by rw [(hR i).2.2.1.at]; rfl
      have K_hK := Lib.hid (fun i => (hR i).2.2.1)
      have K_hE := Lib.hid (fun i => (hR i).2.2.2)
      have HR := Lib.hid hR
      have HC := Lib.hid hcl
      have H0 := Lib.hid h0
      clear hR hcl h0
      haveI : Nonempty I := ⟨i0⟩
      refine wp_region_class F i0 H0.out (by kernel_rfl) (by kernel_rfl) ?_
      repeat (go_big_quiet_step ((first | (go_at_call 67; exact class_call HC.out (HEc.out _)))))
      refine wpQuiet_nil ?_
      intro _ hw'
      obtain ⟨iq, hw''⟩ := hw'
      subst hw''
      clear hB hC hK hE K_hB qhC0 qhC1 qhC2 qhC3 qhC4 qhC5 K_hC qhK0 qhK1 qhK2 qhK3 qhK4 qhK5 K_hK K_hE HC H0
      obtain ⟨hB, hC, hK, hE⟩ := HR.out iq
      clear HR
      generalize F iq = wn at *
      have hQf := hK.at
      unfold frBox at hQf
      have hQc := hC.at
      unfold confBox at hQc
      go_wp2_with fail
      refine (HCo.out _ hE).mono ?_
      rintro e wm ⟨rfl, hb⟩
      go_wp2
      go_ret
      exact ⟨ret_int HF.out.symm, hB.trans (hb.mono hB.size)⟩
  · have HF := Lib.hid (checkF_l c f (by rw [HA.out]; rfl) hk hp hl)
    have d2 : ((f.E.length : Int) != echoI c f.K f.S) = true := by simpa using hl
    clear hl hk hp
    generalize echoI c f.K f.S = en at *
    go_enter Try.func68, Try.ntmps68
    go_wp2_with fail
    refine (HSl.out _).mono ?_
    rintro e wn ⟨rfl, hb⟩
    (try clear hQc hQf)
    replace hB := hB.trans (hb.mono hB.size)
    replace hC := hC.later hb
    replace hK := hK.later hb
    replace hE := hE.later hb
    have hQc := hC.at
    have hQf := hK.at
    unfold confBox at hQc
    unfold frBox at hQf
    clear hb
    go_wp2_with fail
    refine (HRo.out _).mono ?_
    rintro e wl ⟨rfl, rfl⟩
    go_wp2_with fail
    refine (HKi.out _).mono ?_
    rintro e wn ⟨rfl, hb⟩
    (try clear hQc hQf)
    replace hB := hB.trans (hb.mono hB.size)
    replace hC := hC.later hb
    replace hK := hK.later hb
    replace hE := hE.later hb
    have hQc := hC.at
    have hQf := hK.at
    unfold confBox at hQc
    unfold frBox at hQf
    clear hb
    go_wp2_with fail
    refine (HPa.out _).mono ?_
    rintro e wn ⟨rfl, hb⟩
    (try clear hQc hQf)
    replace hB := hB.trans (hb.mono hB.size)
    replace hC := hC.later hb
    replace hK := hK.later hb
    replace hE := hE.later hb
    have hQc := hC.at
    have hQf := hK.at
    unfold confBox at hQc
    unfold frBox at hQf
    clear hb
    go_wp2_with fail
    clear hQc hQf
    obtain ⟨I, F, i0, h0, hR, hcl⟩ := class_any wn (stable_and (stable_below w) (stable_and (stable_blk w.heap.size 24 (confBox c ca cc)) (stable_and (stable_blk (w.heap.size + 1) 82 (frBox f a cap)) (stable_rowT a f.E)))) ⟨hB, hC, hK, hE⟩
    have K_hB := Lib.hid (fun i => (hR i).1)
    have qhC0 : ∀ i, (F i).cell? ⟨w.heap.size, 0, none⟩ = some (.int .i64 c.N) := fun i => by rw [(hR i).2.1.at]; rfl
    have qhC1 : ∀ i, (F i).cell? ⟨w.heap.size, 1, none⟩ = some (.int .i64 c.Pi) := fun i => by rw [(hR i).2.1.at]; rfl
    have qhC2 : ∀ i, (F i).cell? ⟨w.heap.size, 2, none⟩ = some (.int .i64 c.E) := fun i => by rw [(hR i).2.1.at]; rfl
    have qhC3 : ∀ i, (F i).cell? ⟨w.heap.size, 3, none⟩ = some (.int .i64 c.G) := fun i => by rw [(hR i).2.1.at]; rfl
    have qhC4 : ∀ i, (F i).cell? ⟨w.heap.size, 4, none⟩ = some (.int .i64 c.F) := fun i => by rw [(hR i).2.1.at]; rfl
    have qhC5 : ∀ i, (F i).cell? ⟨w.heap.size, 5, none⟩ = some (.slice ca c.P.length cc) := fun i => by rw [(hR i).2.1.at]; rfl
    have K_hC := Lib.hid (fun i => (hR i).2.1)
    have qhK0 : ∀ i, (F i).cell? ⟨w.heap.size + 1, 0, none⟩ = some (.int .i64 f.K) := fun i => by rw [(hR i).2.2.1.at]; rfl
    have qhK1 : ∀ i, (F i).cell? ⟨w.heap.size + 1, 1, none⟩ = some (.int .i64 f.R) := fun i => by rw [(hR i).2.2.1.at]; rfl
    have qhK2 : ∀ i, (F i).cell? ⟨w.heap.size + 1, 2, none⟩ = some (.int .i64 f.S) := fun i => by rw [(hR i).2.2.1.at]; rfl
    have qhK3 : ∀ i, (F i).cell? ⟨w.heap.size + 1, 3, none⟩ = some (.int .i64 f.P.K) := fun i => by rw [(hR i).2.2.1.at]; rfl
    have qhK4 : ∀ i, (F i).cell? ⟨w.heap.size + 1, 4, none⟩ = some (.int .i64 f.P.V) := fun i => by rw [(hR i).2.2.1.at]; rfl
    have qhK5 : ∀ i, (F i).cell? ⟨w.heap.size + 1, 5, none⟩ = some (.slice a f.E.length cap) := fun i => by rw [(hR i).2.2.1.at]; rfl
    have K_hK := Lib.hid (fun i => (hR i).2.2.1)
    have K_hE := Lib.hid (fun i => (hR i).2.2.2)
    have HR := Lib.hid hR
    have HC := Lib.hid hcl
    have H0 := Lib.hid h0
    clear hR hcl h0
    haveI : Nonempty I := ⟨i0⟩
    refine wp_region_class F i0 H0.out (by kernel_rfl) (by kernel_rfl) ?_
    repeat (go_big_quiet_step ((first | (go_at_call 67; exact class_call HC.out (HEc.out _)))))
    refine wpQuiet_nil ?_
    intro _ hw'
    obtain ⟨iq, hw''⟩ := hw'
    subst hw''
    clear hB hC hK hE K_hB qhC0 qhC1 qhC2 qhC3 qhC4 qhC5 K_hC qhK0 qhK1 qhK2 qhK3 qhK4 qhK5 K_hK K_hE HC H0
    obtain ⟨hB, hC, hK, hE⟩ := HR.out iq
    clear HR
    generalize F iq = wn at *
    have hQf := hK.at
    unfold frBox at hQf
    have hQc := hC.at
    unfold confBox at hQc
    go_wp2
    go_ret
    exact ⟨ret_int HF.out.symm, hB⟩

end Go.Proofs.Ytbghpkdkfbpmeaa
