/-
  FaultKinds' walk.
-/
import Derived.Test.YtbghpkdkfbpmeaaGreatK18
import Derived.Test.YtbghpkdkfbpmeaaGreatK4
import Derived.Test.YtbghpkdkfbpmeaaGreatK3
import Derived.Test.YtbghpkdkfbpmeaaGreatK9
namespace Go.Proofs.YtbghpkdkfbpmeaaGreat
open Go.RowKit Plait
set_option maxRecDepth 100000
set_option linter.unusedVariables false
set_option linter.unusedSimpArgs false

theorem RowT.cellsAt {w : World} {b off : Nat} {ts : List It} (h : RowT w (some ⟨b, off, none⟩) ts) (k : Nat) (hk : k < ts.length) : w.cell? ⟨b, off + k * 2, none⟩ = some (.int .i64 ts[k].K) ∧ w.cell? ⟨b, off + k * 2 + 1, none⟩ = some (.int .i64 ts[k].V) := by
  obtain ⟨b', off', e, _, h1, h2, _⟩ := h.get k hk
  cases e
  exact ⟨h1, h2⟩

theorem rowA_one6 (w : World) (t : Ac) (h1 : inI t.H) (h2 : inI t.N) (h3 : t.T.length ≤ 9223372036854775807) : RowA (w.alloc (.cells #[.int .i64 t.H, .int .i64 t.N, .string ⟨t.T.toArray⟩] 49)) (some ⟨w.heap.size, 0, none⟩) [t] := by
  refine ⟨by simp, fun u hu => by rw [List.mem_singleton.1 hu]; exact ⟨h1, h2, h3⟩, .inr ⟨w.heap.size, 0, rfl, by simp, fun i hi => ?_⟩⟩
  have hi0 : i = 0 := by simp at hi; omega
  subst hi0
  have hq := (Blk.new w 49 #[.int .i64 t.H, .int .i64 t.N, .string ⟨t.T.toArray⟩]).at
  exact ⟨by rw [hq]; rfl, by rw [hq]; rfl, by rw [hq]; rfl⟩

set_option maxHeartbeats 6400000 in
theorem faultKinds_walk (c : Cf) (a : Option Addr) (cap : Nat) (how n : Int) (na : Option Addr) (ns : List Int) (nc : Nat) (y : Fr) (ya : Option Addr) (yc : Nat) (ma : Option Addr) (ms : List Int) (mc : Nat) (w : World) (hrow : Row w a c.P) (iN : inI c.N) (iP : inI c.Pi) (iE : inI c.E) (iG : inI c.G) (iF : inI c.F)
    (h1 : -9223372036854775808 ≤ how) (h2 : how ≤ 9223372036854775807) (n1 : -9223372036854775808 ≤ n) (n2 : n ≤ 9223372036854775807) (hns : Row w na ns)
    (hfE : RowT w ya y.E) (iK : inI y.K) (iR : inI y.R) (iS : inI y.S) (iQ : inI y.P.K) (iV : inI y.P.V) (hms : Row w ma ms) :
    Calls Tryz.prog 4 #[.agg #[.int .i64 c.N, .int .i64 c.Pi, .int .i64 c.E, .int .i64 c.G, .int .i64 c.F, .slice a c.P.length cap], .int .i64 how, .int .i64 n, .slice na ns.length nc, .agg #[.int .i64 y.K, .int .i64 y.R, .int .i64 y.S, .int .i64 y.P.K, .int .i64 y.P.V, .slice ya y.E.length yc], .slice ma ms.length mc] w fun e w' => e = .returned (.bool true) ∧ Below w.heap.size w w' := by
  have hB1 : Below w.heap.size w (w.alloc (.cells #[.int .i64 c.N, .int .i64 c.Pi, .int .i64 c.E, .int .i64 c.G, .int .i64 c.F, .slice a c.P.length cap] 24)) := alloc_below w _
  have k_c : Blk (w.alloc (.cells #[.int .i64 c.N, .int .i64 c.Pi, .int .i64 c.E, .int .i64 c.G, .int .i64 c.F, .slice a c.P.length cap] 24)) w.heap.size 24 (confBox c a cap) := Blk.newAt _ _ rfl
  have hB2 : Below w.heap.size w ((w.alloc (.cells #[.int .i64 c.N, .int .i64 c.Pi, .int .i64 c.E, .int .i64 c.G, .int .i64 c.F, .slice a c.P.length cap] 24)).alloc (.cells #[.int .i64 y.K, .int .i64 y.R, .int .i64 y.S, .int .i64 y.P.K, .int .i64 y.P.V, .slice ya y.E.length yc] 32)) := hB1.alloc hB1.size _
  replace k_c := k_c.alloc (.cells #[.int .i64 y.K, .int .i64 y.R, .int .i64 y.S, .int .i64 y.P.K, .int .i64 y.P.V, .slice ya y.E.length yc] 32)
  have k_y : Blk ((w.alloc (.cells #[.int .i64 c.N, .int .i64 c.Pi, .int .i64 c.E, .int .i64 c.G, .int .i64 c.F, .slice a c.P.length cap] 24)).alloc (.cells #[.int .i64 y.K, .int .i64 y.R, .int .i64 y.S, .int .i64 y.P.K, .int .i64 y.P.V, .slice ya y.E.length yc] 32)) (w.heap.size + 1) 32 (frBox y ya yc) := Blk.newAt _ _ (by simp)
  have hB := hB2
  clear hB1 hB2
  go_enter Tryz.func4, Tryz.ntmps4
  go_wp2_with fail
  refine (known6_any _).mono ?_
  rintro e wn ⟨rfl, hb⟩
  replace hB := hB.trans (hb.mono hB.size)
  replace k_c := k_c.later hb
  replace k_y := k_y.later hb
  clear hb
  have qC := k_c.at
  unfold confBox at qC
  go_wp2_with fail
  refine (make_any2 c a cap _ (hrow.later hB)).mono ?_
  rintro e wm ⟨da, dc, rfl, hrd, hfd, hcp, hb⟩
  replace hB := hB.trans (hb.mono hB.size)
  replace k_y := k_y.later hb
  clear hb qC k_c hfd
  have hok := makeC_ok c
  generalize makeC c = d at *
  have hdb := k_y.lt
  have hD : Blk (wm.alloc (.cells #[.int .i64 d.N, .int .i64 d.Pi, .int .i64 d.E, .int .i64 d.G, .int .i64 d.F, .slice da d.P.length dc] 24)) wm.heap.size 24 (confBox d da dc) := Blk.new wm _ _
  replace hB := hB.alloc hB.size (.cells #[.int .i64 d.N, .int .i64 d.Pi, .int .i64 d.E, .int .i64 d.G, .int .i64 d.F, .slice da d.P.length dc] 24)
  replace k_y := k_y.alloc (.cells #[.int .i64 d.N, .int .i64 d.Pi, .int .i64 d.E, .int .i64 d.G, .int .i64 d.F, .slice da d.P.length dc] 24)
  replace hrd := hrd.alloc (.cells #[.int .i64 d.N, .int .i64 d.Pi, .int .i64 d.E, .int .i64 d.G, .int .i64 d.F, .slice da d.P.length dc] 24)
  go_upto_region 4 with fail
  generalize wm.alloc (.cells #[.int .i64 d.N, .int .i64 d.Pi, .int .i64 d.E, .int .i64 d.G, .int .i64 d.F, .slice da d.P.length dc] 24) = wn at *
  generalize wm.heap.size = db at *
  have n6 := hok.n6
  have n12 := hok.n12
  clear hcp hrd hdb
  have qD := hD.at
  unfold confBox at qD
  have qY := k_y.at
  unfold frBox at qY
  go_wp2_with fail
  refine (make5_any d da dc y ya yc ma ms mc _ hok (hms.later hB) iK iR iS iV).mono ?_
  rintro e wm ⟨xa, xc, rfl, hrx, hfx, hb⟩
  replace hB := hB.trans (hb.mono hB.size)
  replace hD := hD.later hb
  clear hb qD qY hfx k_y
  have hokx := makeF_ok d y ms hok
  generalize makeF d y ms = xf at *
  have hX : Blk (wm.alloc (.cells #[.int .i64 xf.K, .int .i64 xf.R, .int .i64 xf.S, .int .i64 xf.P.K, .int .i64 xf.P.V, .slice xa xf.E.length xc] 32)) wm.heap.size 32 (frBox xf xa xc) := Blk.new wm _ _
  replace hB := hB.alloc hB.size (.cells #[.int .i64 xf.K, .int .i64 xf.R, .int .i64 xf.S, .int .i64 xf.P.K, .int .i64 xf.P.V, .slice xa xf.E.length xc] 32)
  replace hD := hD.alloc (.cells #[.int .i64 xf.K, .int .i64 xf.R, .int .i64 xf.S, .int .i64 xf.P.K, .int .i64 xf.P.V, .slice xa xf.E.length xc] 32)
  replace hrx := hrx.alloc (.cells #[.int .i64 xf.K, .int .i64 xf.R, .int .i64 xf.S, .int .i64 xf.P.K, .int .i64 xf.P.V, .slice xa xf.E.length xc] 32)
  go_upto_region 5 with fail
  generalize wm.alloc (.cells #[.int .i64 xf.K, .int .i64 xf.R, .int .i64 xf.S, .int .i64 xf.P.K, .int .i64 xf.P.V, .slice xa xf.E.length xc] 32) = wn at *
  generalize wm.heap.size = xb at *
  have hl15 := (ok_small hok hokx).2.2.2.2.2
  have htl : (textF xf).length ≤ 300 := by rw [textF_length]; omega
  have htl0 : 51 ≤ (textF xf).length := by rw [textF_length]; omega
  have qD := hD.at
  unfold confBox at qD
  have qX := hX.at
  unfold frBox at qX
  go_wp2_with fail
  refine (rText_ok d da dc xf xa xc _ hok hokx hrx).mono ?_
  rintro e wx ⟨rfl, hb⟩
  replace hB := hB.trans (hb.mono hB.size)
  replace hD := hD.later hb
  replace hX := hX.later hb
  replace hrx := hrx.later hb
  clear hb qD qX
  have qD := hD.at
  unfold confBox at qD
  have qX := hX.at
  unfold frBox at qX
  go_wp2_with fail
  refine (text_any na ns nc _ (hns.later hB)).mono ?_
  rintro e wx ⟨rfl, hb⟩
  replace hB := hB.trans (hb.mono hB.size)
  replace hD := hD.later hb
  replace hX := hX.later hb
  replace hrx := hrx.later hb
  clear hb qD qX
  have htn : (textL ns).length ≤ 80 := by unfold textL; simp; omega
  have HT := Lib.hid (fun W (h : Row W na ns) => text_any na ns nc W h)
  generalize textL ns = tl at *
  have hRA := (rowA_one6 wx ⟨how, n, tl⟩ ⟨h1, h2⟩ ⟨n1, n2⟩ (by show tl.length ≤ _; omega)).alloc (.cells #[.int .i64 1, .int .i64 2, .int .i64 3, .int .i64 9, .slice (some ⟨wx.heap.size, 0, none⟩) 1 1, .slice none 0 0] 27)
  have k_f : Blk ((wx.alloc (.cells #[.int .i64 how, .int .i64 n, .string ⟨tl.toArray⟩] 49)).alloc (.cells #[.int .i64 1, .int .i64 2, .int .i64 3, .int .i64 9, .slice (some ⟨wx.heap.size, 0, none⟩) 1 1, .slice none 0 0] 27)) (wx.heap.size + 1) 27 (faBox ⟨1, 2, 3, 9, [⟨how, n, tl⟩], []⟩ (some ⟨wx.heap.size, 0, none⟩) 1 none 0) := Blk.newAt _ _ (by simp)
  replace hB := hB.alloc hB.size (.cells #[.int .i64 how, .int .i64 n, .string ⟨tl.toArray⟩] 49)
  replace hB := hB.alloc hB.size (.cells #[.int .i64 1, .int .i64 2, .int .i64 3, .int .i64 9, .slice (some ⟨wx.heap.size, 0, none⟩) 1 1, .slice none 0 0] 27)
  replace hD := (hD.alloc (.cells #[.int .i64 how, .int .i64 n, .string ⟨tl.toArray⟩] 49)).alloc (.cells #[.int .i64 1, .int .i64 2, .int .i64 3, .int .i64 9, .slice (some ⟨wx.heap.size, 0, none⟩) 1 1, .slice none 0 0] 27)
  replace hX := (hX.alloc (.cells #[.int .i64 how, .int .i64 n, .string ⟨tl.toArray⟩] 49)).alloc (.cells #[.int .i64 1, .int .i64 2, .int .i64 3, .int .i64 9, .slice (some ⟨wx.heap.size, 0, none⟩) 1 1, .slice none 0 0] 27)
  replace hrx := (hrx.alloc (.cells #[.int .i64 how, .int .i64 n, .string ⟨tl.toArray⟩] 49)).alloc (.cells #[.int .i64 1, .int .i64 2, .int .i64 3, .int .i64 9, .slice (some ⟨wx.heap.size, 0, none⟩) 1 1, .slice none 0 0] 27)
  go_upto_region 7 with fail
  generalize (wx.alloc (.cells #[.int .i64 how, .int .i64 n, .string ⟨tl.toArray⟩] 49)).alloc (.cells #[.int .i64 1, .int .i64 2, .int .i64 3, .int .i64 9, .slice (some ⟨wx.heap.size, 0, none⟩) 1 1, .slice none 0 0] 27) = w2 at *
  generalize wx.heap.size + 1 = fb at *
  have hFt : ∀ t ∈ [(⟨how, n, tl⟩ : Ac)], t.T.length ≤ 1048576 := fun t ht => by rw [List.mem_singleton.1 ht]; show tl.length ≤ _; omega
  have HE := Lib.hid (fun W (h : RowA W (some ⟨wx.heap.size, 0, none⟩) [(⟨how, n, tl⟩ : Ac)]) => lEmit_any d da dc ⟨1, 2, 3, 9, [⟨how, n, tl⟩], []⟩ (some ⟨wx.heap.size, 0, none⟩) 1 none 0 5 xf.S 2 3 (textF xf) W hok h (by show 1 ≤ 1000000; omega) hFt (by omega) (by omega) hokx.s0 hokx.s1 ⟨by omega, by omega⟩ (by omega) (by omega) (by omega))
  rw [kinds_emit] at HE
  have HA := Lib.hid (show actL d ⟨how, n, tl⟩ 5 xf.S (textF xf) = if how % 7 = 1 then (textF xf) else if how % 7 = 2 then (textF xf).take (n % (((textF xf).length : Int) + 1)).toNat else if how % 7 = 3 then clean tl else if how % 7 = 4 then turnedL (textF xf) n
    else if how % 7 = 5 then textF (payF (dataF d 5 xf.S (textF xf)) n) else if how % 7 = 6 then textF (echF (dataF d 5 xf.S (textF xf)) n) else [] from rfl)
  generalize actL d ⟨how, n, tl⟩ 5 xf.S (textF xf) = s at *
  clear hFt
  have qD := hD.at
  unfold confBox at qD
  have qX := hX.at
  unfold frBox at qX
  have qF := k_f.at
  unfold faBox at qF
  go_wp2_with fail
  refine (HE.out _ hRA).mono ?_
  rintro e w3 ⟨rfl, hb⟩
  replace hB := hB.trans (hb.mono hB.size)
  replace hD := hD.later hb
  replace hX := hX.later hb
  replace hrx := hrx.later hb
  clear hb qD qX qF HE hRA k_f
  have HWh := Lib.hid (fun W => within6_any how 7 W (by omega) (by omega))
  have hm0 : 0 ≤ how % 7 := by omega
  have hm7 : how % 7 < 7 := by omega
  rcases (by omega : how % 7 = 0 ∨ how % 7 = 1 ∨ how % 7 = 2 ∨ how % 7 = 3 ∨ how % 7 = 4 ∨ how % 7 = 5 ∨ how % 7 = 6) with h | h | h | h | h | h | h
  · rw [h] at HWh HA
    replace HA := Lib.hid (show s = [] by rw [HA.out]; rfl)
    rw [HA.out]
    clear h hm0 hm7 HA
    have b0 : (([] : List UInt8) == []) = true := rfl
    go_wp2_with fail
    refine (HWh.out _).mono ?_
    rintro e wl ⟨rfl, rfl⟩
    go_wp2
    go_ret
    exact ⟨rfl, hB⟩
  · rw [h] at HWh HA
    replace HA := Lib.hid (show s = textF xf by rw [HA.out]; rfl)
    rw [HA.out]
    clear h hm0 hm7 HA
    generalize textF xf = tx at *
    have b0 : (tx == tx) = true := by simp
    go_wp2_with fail
    refine (HWh.out _).mono ?_
    rintro e wl ⟨rfl, rfl⟩
    go_wp2
    go_ret
    exact ⟨rfl, hB⟩
  · rw [h] at HWh HA
    replace HA := Lib.hid (show s = (textF xf).take (n % (((textF xf).length : Int) + 1)).toNat by rw [HA.out]; rfl)
    have p0 := Int.emod_nonneg n (show ((textF xf).length : Int) + 1 ≠ 0 by omega)
    have p1 := Int.emod_lt_of_pos n (show (0 : Int) < ((textF xf).length : Int) + 1 by omega)
    have HWn := Lib.hid (fun W => within6_any n (((textF xf).length : Int) + 1) W (by omega) (by omega))
    obtain ⟨q, hq⟩ : ∃ q : Nat, n % (((textF xf).length : Int) + 1) = q := ⟨(n % (((textF xf).length : Int) + 1)).toNat, by omega⟩
    rw [hq] at HWn HA p1
    rw [Int.toNat_natCast] at HA
    have hql : s.length = q := by rw [HA.out]; simp; omega
    have HFr := Lib.hid (fun W => rfront_any s (textF xf) W (by omega) (by omega))
    rw [show frontB s (textF xf) = true by rw [HA.out]; exact front_of_take _ _] at HFr
    subst hql
    clear h hm0 hm7 HA hq p0 p1
    generalize textF xf = tx at *
    have zl : IntKind.i64.wrap ((tx.length : Int) + 1) = (tx.length : Int) + 1 := wrap_in _ (by omega) (by omega)
    have b0 : ((s.length : Int) == (s.length : Int)) = true := by simp
    go_wp2_with fail
    refine (HWh.out _).mono ?_
    rintro e wl ⟨rfl, rfl⟩
    go_wp2_with fail
    refine (HFr.out _).mono ?_
    rintro e wl ⟨rfl, rfl⟩
    go_wp2_with fail
    refine (HWn.out _).mono ?_
    rintro e wl ⟨rfl, rfl⟩
    go_wp2
    go_ret
    exact ⟨rfl, hB⟩
  · rw [h] at HWh HA
    replace HA := Lib.hid (show s = clean tl by rw [HA.out]; rfl)
    have HCl := Lib.hid (fun W => rclean_any tl W (by omega))
    rw [← HA.out] at HCl
    clear h hm0 hm7 HA
    generalize textF xf = tx at *
    have b0 : (s == s) = true := by simp
    go_wp2_with fail
    refine (HWh.out _).mono ?_
    rintro e wl ⟨rfl, rfl⟩
    go_wp2_with fail
    refine (HT.out _ (hns.later hB)).mono ?_
    rintro e w4 ⟨rfl, hb⟩
    replace hB := hB.trans (hb.mono hB.size)
    clear hb
    go_wp2_with fail
    refine (HCl.out _).mono ?_
    rintro e wl ⟨rfl, rfl⟩
    go_wp2
    go_ret
    exact ⟨rfl, hB⟩
  · rw [h] at HWh HA
    have p0 := Int.emod_nonneg n (show ((textF xf).length : Int) ≠ 0 by omega)
    have p1 := Int.emod_lt_of_pos n (show (0 : Int) < ((textF xf).length : Int) by omega)
    have HWn := Lib.hid (fun W => within6_any n ((textF xf).length : Int) W (by omega) (by omega))
    replace HA := Lib.hid (show s = clean (turn (textF xf) (n % ((textF xf).length : Int))) by rw [HA.out]; show turnedL (textF xf) n = _; unfold turnedL; rw [if_neg (by intro hn; rw [hn] at htl0; simp at htl0)])
    obtain ⟨q, hq⟩ : ∃ q : Nat, n % ((textF xf).length : Int) = q := ⟨(n % ((textF xf).length : Int)).toNat, by omega⟩
    rw [hq] at HWn HA p1
    have b0 : (s == textF xf) = false := by rw [HA.out]; exact turned_ne xf q (by omega)
    have b1 : (s != textF xf) = true := by rw [bne, b0]; rfl
    have htt := turn_length (textF xf) (q : Int)
    have hsl : s.length ≤ (textF xf).length := by rw [HA.out, ← htt]; exact clean_le _
    have HTu := Lib.hid (fun W => rturn_any (textF xf) (q : Int) W (by omega))
    have HFr := Lib.hid (fun W => rfront_any s (turn (textF xf) (q : Int)) W (by omega) (by omega))
    rw [show frontB s (turn (textF xf) (q : Int)) = true by rw [HA.out]; exact clean_front _] at HFr
    clear h hm0 hm7 HA hq p0 p1 htt
    generalize turn (textF xf) (q : Int) = tt at *
    generalize textF xf = tx at *
    have d1 : decide ((s.length : Int) ≤ (tx.length : Int)) = true := by simp; omega
    have d2 : decide (s.length ≤ tx.length) = true := by simp; omega
    go_wp2_with fail
    refine (HWh.out _).mono ?_
    rintro e wl ⟨rfl, rfl⟩
    go_wp2_with fail
    refine (HWn.out _).mono ?_
    rintro e wl ⟨rfl, rfl⟩
    go_wp2_with fail
    refine (HTu.out _).mono ?_
    rintro e w4 ⟨rfl, hb⟩
    replace hB := hB.trans (hb.mono hB.size)
    clear hb
    go_wp2_with fail
    refine (HFr.out _).mono ?_
    rintro e wl ⟨rfl, rfl⟩
    go_wp2
    go_ret
    exact ⟨rfl, hB⟩
  · rw [h] at HWh HA
    obtain ⟨yF, hokY, hsY0, hyK, hyS, hyP, hyA, hyB⟩ := kinds_pay d xf n hok hokx
    have hsY : s = textF yF := by rw [HA.out]; exact hsY0
    have hl16 := (ok_small hok hokY).2.2.2.2.2
    clear hsY0
    have HRd := Lib.hid (fun W => rRead_any2 d da dc s W hok (by rw [hsY, textF_length]; omega))
    rw [hsY, readF_text d yF hok hokY, ← hsY] at HRd
    replace HRd := Lib.hid (fun W => (HRd.out W).mono fun e w' (hh : ReadRet2 (yF, 0) W e w') => show ReadRet (yF, 0) W e w' from by obtain ⟨a, cap, g1, g2, g3, _, g5⟩ := hh; exact ⟨a, cap, g1, g2, g3, g5⟩)
    have HWi := Lib.hid (fun W => rwire_any d da dc 5 W hok (by omega) (by omega))
    have HWv := Lib.hid (fun W => within6_any n 256 W (by omega) (by omega))
    have b1 : (yF.K != 3) = false := by simp [hyK]
    have b2 : (yF.S != xf.S) = false := by simp [hyS]
    clear h hm0 hm7 HA hsY
    generalize n % 256 = v at *
    have b3 : (yF.P.K == 2) = true := by simp [hyP]
    have b4 : (yF.P.V == v) = true := by simp [hyP]
    by_cases h3 : xf.K = 3
    · have b5 : (xf.K == 3) = true := by simpa using h3
      have b6 : (xf.K != 3) = false := by simpa using h3
      obtain ⟨hR, hE⟩ := hyA h3
      have b7 : (yF.R != xf.R) = false := by simp [hR]
      have HE2 := Lib.hid (show decide (yF.E = xf.E) = true by simp [hE])
      clear h3 hR hE hyA hyB hyK hyS hyP HWi
      go_wp2_with fail
      refine (HWh.out _).mono ?_
      rintro e wl ⟨rfl, rfl⟩
      have qD := hD.at
      unfold confBox at qD
      have qX := hX.at
      unfold frBox at qX
      go_wp2_with fail
      refine (HRd.out _).mono ?_
      rintro e w4 ⟨ra, rc, rfl, hry, hfy, hb⟩
      replace hB := hB.trans (hb.mono hB.size)
      replace hD := hD.later hb
      replace hX := hX.later hb
      replace hrx := hrx.later hb
      clear hb qD qX hfy HRd
      have hY : Blk (w4.alloc (.cells #[.int .i64 yF.K, .int .i64 yF.R, .int .i64 yF.S, .int .i64 yF.P.K, .int .i64 yF.P.V, .slice ra yF.E.length rc] 32)) w4.heap.size 32 (frBox yF ra rc) := Blk.new w4 _ _
      replace hB := hB.alloc hB.size (.cells #[.int .i64 yF.K, .int .i64 yF.R, .int .i64 yF.S, .int .i64 yF.P.K, .int .i64 yF.P.V, .slice ra yF.E.length rc] 32)
      replace hD := hD.alloc (.cells #[.int .i64 yF.K, .int .i64 yF.R, .int .i64 yF.S, .int .i64 yF.P.K, .int .i64 yF.P.V, .slice ra yF.E.length rc] 32)
      replace hX := hX.alloc (.cells #[.int .i64 yF.K, .int .i64 yF.R, .int .i64 yF.S, .int .i64 yF.P.K, .int .i64 yF.P.V, .slice ra yF.E.length rc] 32)
      replace hrx := hrx.alloc (.cells #[.int .i64 yF.K, .int .i64 yF.R, .int .i64 yF.S, .int .i64 yF.P.K, .int .i64 yF.P.V, .slice ra yF.E.length rc] 32)
      replace hry := hry.alloc (.cells #[.int .i64 yF.K, .int .i64 yF.R, .int .i64 yF.S, .int .i64 yF.P.K, .int .i64 yF.P.V, .slice ra yF.E.length rc] 32)
      go_upto_region 20 with fail
      generalize w4.alloc (.cells #[.int .i64 yF.K, .int .i64 yF.R, .int .i64 yF.S, .int .i64 yF.P.K, .int .i64 yF.P.V, .slice ra yF.E.length rc] 32) = w5 at *
      generalize w4.heap.size = yb at *
      have qD := hD.at
      unfold confBox at qD
      have qX := hX.at
      unfold frBox at qX
      have qY := hY.at
      unfold frBox at qY
      go_upto_region 22 with fail
      clear qD qX qY
      refine region_slots [some 121, some 122, some 123, some 124, some 125, some 126, some 127, some 128, some 129, some 130, some 131, some 132, some 133, some 134, some 135, some 136, some 137, some 138, some 139, some 140, some 141, some 142] [none, none, none, none, none, none, none, none, none, none, none, none, none, none, none, none, none, none, none, none, none, none] 200 22 rfl (by kernel_rfl) (by kernel_rfl) rfl rfl ?_
      apply step_fix
      · intro a W Zs hS hFm hz hd
        have h14 := hFm.old 14 rfl
        conv at h14 => rhs; whnf
        replace h14 := ev_get hFm.size h14
        refine .inl ⟨wanted_none rfl _, fun K hK => ?_⟩
        have HK := Lib.hid hK
        clear hd hFm hK
        go_simp
        exact HK.out _ _ rfl (Below.refl _ _)
      simp only [List.nil_append, List.cons_append]
      apply step_fix
      · intro a W Zs hS hFm hz hd
        have h121 := ev_get hFm.size (hd 0 121 rfl rfl)
        have hq := (hX.drew1.later hS).at
        unfold frBox at hq
        refine .inl ⟨wanted_none rfl _, fun K hK => ?_⟩
        have HK := Lib.hid hK
        clear hd hFm hK
        go_simp
        exact HK.out _ _ rfl (Below.refl _ _)
      simp only [List.nil_append, List.cons_append]
      apply step_fix
      · intro a W Zs hS hFm hz hd
        have h122 := ev_get hFm.size (hd 1 122 rfl rfl)
        refine .inl ⟨wanted_none rfl _, fun K hK => ?_⟩
        have HK := Lib.hid hK
        clear hd hFm hK
        go_simp
        exact HK.out _ _ rfl (Below.refl _ _)
      simp only [List.nil_append, List.cons_append]
      apply step_fix
      · intro a W Zs hS hFm hz hd
        have h123 := ev_get hFm.size (hd 2 123 rfl rfl)
        refine .inl ⟨wanted_none rfl _, fun K hK => ?_⟩
        have HK := Lib.hid hK
        clear hd hFm hK
        go_simp
        exact HK.out _ _ rfl (Below.refl _ _)
      simp only [List.nil_append, List.cons_append]
      apply step_fix
      · intro a W Zs hS hFm hz hd
        have h18 := hFm.old 18 rfl
        conv at h18 => rhs; whnf
        replace h18 := ev_get hFm.size h18
        refine .inl ⟨wanted_at rfl rfl (hd 3 124 rfl rfl), fun K hK => ?_⟩
        have HK := Lib.hid hK
        clear hd hFm hK
        go_simp
        exact HK.out _ _ rfl (Below.refl _ _)
      simp only [List.nil_append, List.cons_append]
      apply step_fix
      · intro a W Zs hS hFm hz hd
        have h125 := ev_get hFm.size (hd 4 125 rfl rfl)
        have hq := (hY.drew1.later hS).at
        unfold frBox at hq
        refine .inl ⟨wanted_at rfl rfl (hd 3 124 rfl rfl), fun K hK => ?_⟩
        have HK := Lib.hid hK
        clear hd hFm hK
        go_simp
        exact HK.out _ _ rfl (Below.refl _ _)
      simp only [List.nil_append, List.cons_append]
      apply step_fix
      · intro a W Zs hS hFm hz hd
        have h14 := hFm.old 14 rfl
        conv at h14 => rhs; whnf
        replace h14 := ev_get hFm.size h14
        refine .inl ⟨wanted_at rfl rfl (hd 3 124 rfl rfl), fun K hK => ?_⟩
        have HK := Lib.hid hK
        clear hd hFm hK
        go_simp
        exact HK.out _ _ rfl (Below.refl _ _)
      simp only [List.nil_append, List.cons_append]
      apply step_fix
      · intro a W Zs hS hFm hz hd
        have h127 := ev_get hFm.size (hd 6 127 rfl rfl)
        have hq := (hX.drew1.later hS).at
        unfold frBox at hq
        refine .inl ⟨wanted_at rfl rfl (hd 3 124 rfl rfl), fun K hK => ?_⟩
        have HK := Lib.hid hK
        clear hd hFm hK
        go_simp
        exact HK.out _ _ rfl (Below.refl _ _)
      simp only [List.nil_append, List.cons_append]
      apply step_fix
      · intro a W Zs hS hFm hz hd
        have h126 := ev_get hFm.size (hd 5 126 rfl rfl)
        have h128 := ev_get hFm.size (hd 7 128 rfl rfl)
        refine .inl ⟨wanted_at rfl rfl (hd 3 124 rfl rfl), fun K hK => ?_⟩
        have HK := Lib.hid hK
        clear hd hFm hK
        go_simp
        exact HK.out _ _ rfl (Below.refl _ _)
      simp only [List.nil_append, List.cons_append]
      apply step_fix
      · intro a W Zs hS hFm hz hd
        have h124 := ev_get hFm.size (hd 3 124 rfl rfl)
        have h129 := ev_get hFm.size (hd 8 129 rfl rfl)
        refine .inl ⟨wanted_none rfl _, fun K hK => ?_⟩
        have HK := Lib.hid hK
        clear hd hFm hK
        go_simp
        exact HK.out _ _ rfl (Below.refl _ _)
      simp only [List.nil_append, List.cons_append]
      apply step_fix
      · intro a W Zs hS hFm hz hd
        have h130 := ev_get hFm.size (hd 9 130 rfl rfl)
        refine .inl ⟨wanted_none rfl _, fun K hK => ?_⟩
        have HK := Lib.hid hK
        clear hd hFm hK
        go_simp
        exact HK.out _ _ rfl (Below.refl _ _)
      simp only [List.nil_append, List.cons_append]
      apply step_fix
      · intro a W Zs hS hFm hz hd
        have h14 := hFm.old 14 rfl
        conv at h14 => rhs; whnf
        replace h14 := ev_get hFm.size h14
        refine .inl ⟨wanted_at rfl rfl (hd 10 131 rfl rfl), fun K hK => ?_⟩
        have HK := Lib.hid hK
        clear hd hFm hK
        go_simp
        exact HK.out _ _ rfl (Below.refl _ _)
      simp only [List.nil_append, List.cons_append]
      apply step_fix
      · intro a W Zs hS hFm hz hd
        have h132 := ev_get hFm.size (hd 11 132 rfl rfl)
        have hq := (hX.drew1.later hS).at
        unfold frBox at hq
        refine .inl ⟨wanted_at rfl rfl (hd 10 131 rfl rfl), fun K hK => ?_⟩
        have HK := Lib.hid hK
        clear hd hFm hK
        go_simp
        exact HK.out _ _ rfl (Below.refl _ _)
      simp only [List.nil_append, List.cons_append]
      apply step_fix
      · intro a W Zs hS hFm hz hd
        have h133 := ev_get hFm.size (hd 12 133 rfl rfl)
        refine .inl ⟨wanted_at rfl rfl (hd 10 131 rfl rfl), fun K hK => ?_⟩
        have HK := Lib.hid hK
        clear hd hFm hK
        go_simp
        exact HK.out _ _ rfl (Below.refl _ _)
      simp only [List.nil_append, List.cons_append]
      apply step_fix
      · intro a W Zs hS hFm hz hd
        have h134 := ev_get hFm.size (hd 13 134 rfl rfl)
        refine .inl ⟨wanted_at rfl rfl (hd 10 131 rfl rfl), fun K hK => ?_⟩
        have HK := Lib.hid hK
        clear hd hFm hK
        go_simp
        exact HK.out _ _ rfl (Below.refl _ _)
      simp only [List.nil_append, List.cons_append]
      apply step_fix
      · intro a W Zs hS hFm hz hd
        exact .inr ⟨wanted_not rfl rfl (hd 14 135 rfl rfl), rfl⟩
      simp only [List.nil_append, List.cons_append]
      apply step_fix
      · intro a W Zs hS hFm hz hd
        exact .inr ⟨wanted_not rfl rfl (hd 14 135 rfl rfl), rfl⟩
      simp only [List.nil_append, List.cons_append]
      apply step_fix
      · intro a W Zs hS hFm hz hd
        exact .inr ⟨wanted_not rfl rfl (hd 14 135 rfl rfl), rfl⟩
      simp only [List.nil_append, List.cons_append]
      apply step_fix
      · intro a W Zs hS hFm hz hd
        exact .inr ⟨wanted_not rfl rfl (hd 14 135 rfl rfl), rfl⟩
      simp only [List.nil_append, List.cons_append]
      apply step_fix
      · intro a W Zs hS hFm hz hd
        exact .inr ⟨wanted_not rfl rfl (hd 14 135 rfl rfl), rfl⟩
      simp only [List.nil_append, List.cons_append]
      apply step_fix
      · intro a W Zs hS hFm hz hd
        have h135 := ev_get hFm.size (hd 14 135 rfl rfl)
        have h140 := ev_get hFm.size (hd 19 140 rfl rfl)
        refine .inl ⟨wanted_at rfl rfl (hd 10 131 rfl rfl), fun K hK => ?_⟩
        have HK := Lib.hid hK
        clear hd hFm hK
        go_simp
        exact HK.out _ _ rfl (Below.refl _ _)
      simp only [List.nil_append, List.cons_append]
      apply step_fix
      · intro a W Zs hS hFm hz hd
        have h131 := ev_get hFm.size (hd 10 131 rfl rfl)
        have h141 := ev_get hFm.size (hd 20 141 rfl rfl)
        refine .inl ⟨wanted_none rfl _, fun K hK => ?_⟩
        have HK := Lib.hid hK
        clear hd hFm hK
        go_simp
        exact HK.out _ _ rfl (Below.refl _ _)
      simp only [List.nil_append, List.cons_append]
      intro a w6 Zs hS hFm hz hd
      have e142 := hd 21 142 (by decide) rfl
      have e0 := hFm.old 0 rfl
      conv at e0 => rhs; whnf
      have e1 := hFm.old 1 rfl
      conv at e1 => rhs; whnf
      have e2 := hFm.old 2 rfl
      conv at e2 => rhs; whnf
      have e3 := hFm.old 3 rfl
      conv at e3 => rhs; whnf
      have e4 := hFm.old 4 rfl
      conv at e4 => rhs; whnf
      have e5 := hFm.old 5 rfl
      conv at e5 => rhs; whnf
      have e6 := hFm.old 6 rfl
      conv at e6 => rhs; whnf
      have e7 := hFm.old 7 rfl
      conv at e7 => rhs; whnf
      have e8 := hFm.old 8 rfl
      conv at e8 => rhs; whnf
      have e9 := hFm.old 9 rfl
      conv at e9 => rhs; whnf
      have e10 := hFm.old 10 rfl
      conv at e10 => rhs; whnf
      have e11 := hFm.old 11 rfl
      conv at e11 => rhs; whnf
      have e12 := hFm.old 12 rfl
      conv at e12 => rhs; whnf
      have e13 := hFm.old 13 rfl
      conv at e13 => rhs; whnf
      have e14 := hFm.old 14 rfl
      conv at e14 => rhs; whnf
      have e15 := hFm.old 15 rfl
      conv at e15 => rhs; whnf
      have e16 := hFm.old 16 rfl
      conv at e16 => rhs; whnf
      have e17 := hFm.old 17 rfl
      conv at e17 => rhs; whnf
      have e18 := hFm.old 18 rfl
      conv at e18 => rhs; whnf
      have e19 := hFm.old 19 rfl
      conv at e19 => rhs; whnf
      have e20 := hFm.old 20 rfl
      conv at e20 => rhs; whnf
      have e21 := hFm.old 21 rfl
      conv at e21 => rhs; whnf
      have e22 := hFm.old 22 rfl
      conv at e22 => rhs; whnf
      have e23 := hFm.old 23 rfl
      conv at e23 => rhs; whnf
      have e24 := hFm.old 24 rfl
      conv at e24 => rhs; whnf
      have e25 := hFm.old 25 rfl
      conv at e25 => rhs; whnf
      have e26 := hFm.old 26 rfl
      conv at e26 => rhs; whnf
      have e27 := hFm.old 27 rfl
      conv at e27 => rhs; whnf
      have e28 := hFm.old 28 rfl
      conv at e28 => rhs; whnf
      have e29 := hFm.old 29 rfl
      conv at e29 => rhs; whnf
      have e30 := hFm.old 30 rfl
      conv at e30 => rhs; whnf
      have e31 := hFm.old 31 rfl
      conv at e31 => rhs; whnf
      have e32 := hFm.old 32 rfl
      conv at e32 => rhs; whnf
      have e33 := hFm.old 33 rfl
      conv at e33 => rhs; whnf
      have e34 := hFm.old 34 rfl
      conv at e34 => rhs; whnf
      have e35 := hFm.old 35 rfl
      conv at e35 => rhs; whnf
      have e36 := hFm.old 36 rfl
      conv at e36 => rhs; whnf
      have e37 := hFm.old 37 rfl
      conv at e37 => rhs; whnf
      have e38 := hFm.old 38 rfl
      conv at e38 => rhs; whnf
      have e39 := hFm.old 39 rfl
      conv at e39 => rhs; whnf
      have e40 := hFm.old 40 rfl
      conv at e40 => rhs; whnf
      have e41 := hFm.old 41 rfl
      conv at e41 => rhs; whnf
      have e42 := hFm.old 42 rfl
      conv at e42 => rhs; whnf
      have e43 := hFm.old 43 rfl
      conv at e43 => rhs; whnf
      have e44 := hFm.old 44 rfl
      conv at e44 => rhs; whnf
      have e45 := hFm.old 45 rfl
      conv at e45 => rhs; whnf
      have e46 := hFm.old 46 rfl
      conv at e46 => rhs; whnf
      have e47 := hFm.old 47 rfl
      conv at e47 => rhs; whnf
      have e48 := hFm.old 48 rfl
      conv at e48 => rhs; whnf
      have e49 := hFm.old 49 rfl
      conv at e49 => rhs; whnf
      have e50 := hFm.old 50 rfl
      conv at e50 => rhs; whnf
      have e51 := hFm.old 51 rfl
      conv at e51 => rhs; whnf
      have e52 := hFm.old 52 rfl
      conv at e52 => rhs; whnf
      have e53 := hFm.old 53 rfl
      conv at e53 => rhs; whnf
      have e54 := hFm.old 54 rfl
      conv at e54 => rhs; whnf
      have e55 := hFm.old 55 rfl
      conv at e55 => rhs; whnf
      have e56 := hFm.old 56 rfl
      conv at e56 => rhs; whnf
      have e57 := hFm.old 57 rfl
      conv at e57 => rhs; whnf
      have e58 := hFm.old 58 rfl
      conv at e58 => rhs; whnf
      have e59 := hFm.old 59 rfl
      conv at e59 => rhs; whnf
      have e60 := hFm.old 60 rfl
      conv at e60 => rhs; whnf
      have e61 := hFm.old 61 rfl
      conv at e61 => rhs; whnf
      have e62 := hFm.old 62 rfl
      conv at e62 => rhs; whnf
      have e63 := hFm.old 63 rfl
      conv at e63 => rhs; whnf
      have e64 := hFm.old 64 rfl
      conv at e64 => rhs; whnf
      have e65 := hFm.old 65 rfl
      conv at e65 => rhs; whnf
      have e66 := hFm.old 66 rfl
      conv at e66 => rhs; whnf
      have e67 := hFm.old 67 rfl
      conv at e67 => rhs; whnf
      have e68 := hFm.old 68 rfl
      conv at e68 => rhs; whnf
      have e69 := hFm.old 69 rfl
      conv at e69 => rhs; whnf
      have e70 := hFm.old 70 rfl
      conv at e70 => rhs; whnf
      have e71 := hFm.old 71 rfl
      conv at e71 => rhs; whnf
      have e72 := hFm.old 72 rfl
      conv at e72 => rhs; whnf
      have e73 := hFm.old 73 rfl
      conv at e73 => rhs; whnf
      have e74 := hFm.old 74 rfl
      conv at e74 => rhs; whnf
      have e75 := hFm.old 75 rfl
      conv at e75 => rhs; whnf
      have e76 := hFm.old 76 rfl
      conv at e76 => rhs; whnf
      have e77 := hFm.old 77 rfl
      conv at e77 => rhs; whnf
      have e78 := hFm.old 78 rfl
      conv at e78 => rhs; whnf
      have e79 := hFm.old 79 rfl
      conv at e79 => rhs; whnf
      have e80 := hFm.old 80 rfl
      conv at e80 => rhs; whnf
      have e81 := hFm.old 81 rfl
      conv at e81 => rhs; whnf
      have e82 := hFm.old 82 rfl
      conv at e82 => rhs; whnf
      have e83 := hFm.old 83 rfl
      conv at e83 => rhs; whnf
      have e84 := hFm.old 84 rfl
      conv at e84 => rhs; whnf
      have e85 := hFm.old 85 rfl
      conv at e85 => rhs; whnf
      have e86 := hFm.old 86 rfl
      conv at e86 => rhs; whnf
      have e87 := hFm.old 87 rfl
      conv at e87 => rhs; whnf
      have e88 := hFm.old 88 rfl
      conv at e88 => rhs; whnf
      have e89 := hFm.old 89 rfl
      conv at e89 => rhs; whnf
      have e90 := hFm.old 90 rfl
      conv at e90 => rhs; whnf
      have e91 := hFm.old 91 rfl
      conv at e91 => rhs; whnf
      have e92 := hFm.old 92 rfl
      conv at e92 => rhs; whnf
      have e93 := hFm.old 93 rfl
      conv at e93 => rhs; whnf
      have e94 := hFm.old 94 rfl
      conv at e94 => rhs; whnf
      have e95 := hFm.old 95 rfl
      conv at e95 => rhs; whnf
      have e96 := hFm.old 96 rfl
      conv at e96 => rhs; whnf
      have e97 := hFm.old 97 rfl
      conv at e97 => rhs; whnf
      have e98 := hFm.old 98 rfl
      conv at e98 => rhs; whnf
      have e99 := hFm.old 99 rfl
      conv at e99 => rhs; whnf
      have e100 := hFm.old 100 rfl
      conv at e100 => rhs; whnf
      have e101 := hFm.old 101 rfl
      conv at e101 => rhs; whnf
      have e102 := hFm.old 102 rfl
      conv at e102 => rhs; whnf
      have e103 := hFm.old 103 rfl
      conv at e103 => rhs; whnf
      have e104 := hFm.old 104 rfl
      conv at e104 => rhs; whnf
      have e105 := hFm.old 105 rfl
      conv at e105 => rhs; whnf
      have e106 := hFm.old 106 rfl
      conv at e106 => rhs; whnf
      have e107 := hFm.old 107 rfl
      conv at e107 => rhs; whnf
      have e108 := hFm.old 108 rfl
      conv at e108 => rhs; whnf
      have e109 := hFm.old 109 rfl
      conv at e109 => rhs; whnf
      have e110 := hFm.old 110 rfl
      conv at e110 => rhs; whnf
      have e111 := hFm.old 111 rfl
      conv at e111 => rhs; whnf
      have e112 := hFm.old 112 rfl
      conv at e112 => rhs; whnf
      have e113 := hFm.old 113 rfl
      conv at e113 => rhs; whnf
      have e114 := hFm.old 114 rfl
      conv at e114 => rhs; whnf
      have e115 := hFm.old 115 rfl
      conv at e115 => rhs; whnf
      have e116 := hFm.old 116 rfl
      conv at e116 => rhs; whnf
      have e117 := hFm.old 117 rfl
      conv at e117 => rhs; whnf
      have e118 := hFm.old 118 rfl
      conv at e118 => rhs; whnf
      have e119 := hFm.old 119 rfl
      conv at e119 => rhs; whnf
      have e120 := hFm.old 120 rfl
      conv at e120 => rhs; whnf
      have e143 := hFm.old 143 rfl
      conv at e143 => rhs; whnf
      have e144 := hFm.old 144 rfl
      conv at e144 => rhs; whnf
      have e145 := hFm.old 145 rfl
      conv at e145 => rhs; whnf
      have e146 := hFm.old 146 rfl
      conv at e146 => rhs; whnf
      have e147 := hFm.old 147 rfl
      conv at e147 => rhs; whnf
      have e148 := hFm.old 148 rfl
      conv at e148 => rhs; whnf
      have e149 := hFm.old 149 rfl
      conv at e149 => rhs; whnf
      have e150 := hFm.old 150 rfl
      conv at e150 => rhs; whnf
      have e151 := hFm.old 151 rfl
      conv at e151 => rhs; whnf
      have e152 := hFm.old 152 rfl
      conv at e152 => rhs; whnf
      have e153 := hFm.old 153 rfl
      conv at e153 => rhs; whnf
      have e154 := hFm.old 154 rfl
      conv at e154 => rhs; whnf
      have e155 := hFm.old 155 rfl
      conv at e155 => rhs; whnf
      have e156 := hFm.old 156 rfl
      conv at e156 => rhs; whnf
      have e157 := hFm.old 157 rfl
      conv at e157 => rhs; whnf
      have e158 := hFm.old 158 rfl
      conv at e158 => rhs; whnf
      have e159 := hFm.old 159 rfl
      conv at e159 => rhs; whnf
      have e160 := hFm.old 160 rfl
      conv at e160 => rhs; whnf
      have e161 := hFm.old 161 rfl
      conv at e161 => rhs; whnf
      have e162 := hFm.old 162 rfl
      conv at e162 => rhs; whnf
      have e163 := hFm.old 163 rfl
      conv at e163 => rhs; whnf
      have e164 := hFm.old 164 rfl
      conv at e164 => rhs; whnf
      have e165 := hFm.old 165 rfl
      conv at e165 => rhs; whnf
      have e166 := hFm.old 166 rfl
      conv at e166 => rhs; whnf
      have e167 := hFm.old 167 rfl
      conv at e167 => rhs; whnf
      have e168 := hFm.old 168 rfl
      conv at e168 => rhs; whnf
      have e169 := hFm.old 169 rfl
      conv at e169 => rhs; whnf
      have e170 := hFm.old 170 rfl
      conv at e170 => rhs; whnf
      have e171 := hFm.old 171 rfl
      conv at e171 => rhs; whnf
      have e172 := hFm.old 172 rfl
      conv at e172 => rhs; whnf
      have e173 := hFm.old 173 rfl
      conv at e173 => rhs; whnf
      have e174 := hFm.old 174 rfl
      conv at e174 => rhs; whnf
      have e175 := hFm.old 175 rfl
      conv at e175 => rhs; whnf
      have e176 := hFm.old 176 rfl
      conv at e176 => rhs; whnf
      have e177 := hFm.old 177 rfl
      conv at e177 => rhs; whnf
      have e178 := hFm.old 178 rfl
      conv at e178 => rhs; whnf
      have e179 := hFm.old 179 rfl
      conv at e179 => rhs; whnf
      have e180 := hFm.old 180 rfl
      conv at e180 => rhs; whnf
      have e181 := hFm.old 181 rfl
      conv at e181 => rhs; whnf
      have e182 := hFm.old 182 rfl
      conv at e182 => rhs; whnf
      have e183 := hFm.old 183 rfl
      conv at e183 => rhs; whnf
      have e184 := hFm.old 184 rfl
      conv at e184 => rhs; whnf
      have e185 := hFm.old 185 rfl
      conv at e185 => rhs; whnf
      have e186 := hFm.old 186 rfl
      conv at e186 => rhs; whnf
      have e187 := hFm.old 187 rfl
      conv at e187 => rhs; whnf
      have e188 := hFm.old 188 rfl
      conv at e188 => rhs; whnf
      have e189 := hFm.old 189 rfl
      conv at e189 => rhs; whnf
      have e190 := hFm.old 190 rfl
      conv at e190 => rhs; whnf
      have e191 := hFm.old 191 rfl
      conv at e191 => rhs; whnf
      have e192 := hFm.old 192 rfl
      conv at e192 => rhs; whnf
      have e193 := hFm.old 193 rfl
      conv at e193 => rhs; whnf
      have e194 := hFm.old 194 rfl
      conv at e194 => rhs; whnf
      have e195 := hFm.old 195 rfl
      conv at e195 => rhs; whnf
      have e196 := hFm.old 196 rfl
      conv at e196 => rhs; whnf
      have e197 := hFm.old 197 rfl
      conv at e197 => rhs; whnf
      have e198 := hFm.old 198 rfl
      conv at e198 => rhs; whnf
      have e199 := hFm.old 199 rfl
      conv at e199 => rhs; whnf
      have hsz := hFm.size
      have hdf := hFm.defers
      clear hd hFm
      obtain ⟨t, df⟩ := a
      simp only at hsz hdf
      subst hdf
      obtain ⟨x, hx⟩ : ∃ x : Nat → Value, ∀ i, t.getD i undef = x i := ⟨fun i => t.getD i undef, fun _ => rfl⟩
      have h142 := (hx 142).symm.trans e142
      have h0 := (hx 0).symm.trans e0
      have h1 := (hx 1).symm.trans e1
      have h2 := (hx 2).symm.trans e2
      have h3 := (hx 3).symm.trans e3
      have h4 := (hx 4).symm.trans e4
      have h5 := (hx 5).symm.trans e5
      have h6 := (hx 6).symm.trans e6
      have h7 := (hx 7).symm.trans e7
      have h8 := (hx 8).symm.trans e8
      have h9 := (hx 9).symm.trans e9
      have h10 := (hx 10).symm.trans e10
      have h11 := (hx 11).symm.trans e11
      have h12 := (hx 12).symm.trans e12
      have h13 := (hx 13).symm.trans e13
      have h14 := (hx 14).symm.trans e14
      have h15 := (hx 15).symm.trans e15
      have h16 := (hx 16).symm.trans e16
      have h17 := (hx 17).symm.trans e17
      have h18 := (hx 18).symm.trans e18
      have h19 := (hx 19).symm.trans e19
      have h20 := (hx 20).symm.trans e20
      have h21 := (hx 21).symm.trans e21
      have h22 := (hx 22).symm.trans e22
      have h23 := (hx 23).symm.trans e23
      have h24 := (hx 24).symm.trans e24
      have h25 := (hx 25).symm.trans e25
      have h26 := (hx 26).symm.trans e26
      have h27 := (hx 27).symm.trans e27
      have h28 := (hx 28).symm.trans e28
      have h29 := (hx 29).symm.trans e29
      have h30 := (hx 30).symm.trans e30
      have h31 := (hx 31).symm.trans e31
      have h32 := (hx 32).symm.trans e32
      have h33 := (hx 33).symm.trans e33
      have h34 := (hx 34).symm.trans e34
      have h35 := (hx 35).symm.trans e35
      have h36 := (hx 36).symm.trans e36
      have h37 := (hx 37).symm.trans e37
      have h38 := (hx 38).symm.trans e38
      have h39 := (hx 39).symm.trans e39
      have h40 := (hx 40).symm.trans e40
      have h41 := (hx 41).symm.trans e41
      have h42 := (hx 42).symm.trans e42
      have h43 := (hx 43).symm.trans e43
      have h44 := (hx 44).symm.trans e44
      have h45 := (hx 45).symm.trans e45
      have h46 := (hx 46).symm.trans e46
      have h47 := (hx 47).symm.trans e47
      have h48 := (hx 48).symm.trans e48
      have h49 := (hx 49).symm.trans e49
      have h50 := (hx 50).symm.trans e50
      have h51 := (hx 51).symm.trans e51
      have h52 := (hx 52).symm.trans e52
      have h53 := (hx 53).symm.trans e53
      have h54 := (hx 54).symm.trans e54
      have h55 := (hx 55).symm.trans e55
      have h56 := (hx 56).symm.trans e56
      have h57 := (hx 57).symm.trans e57
      have h58 := (hx 58).symm.trans e58
      have h59 := (hx 59).symm.trans e59
      have h60 := (hx 60).symm.trans e60
      have h61 := (hx 61).symm.trans e61
      have h62 := (hx 62).symm.trans e62
      have h63 := (hx 63).symm.trans e63
      have h64 := (hx 64).symm.trans e64
      have h65 := (hx 65).symm.trans e65
      have h66 := (hx 66).symm.trans e66
      have h67 := (hx 67).symm.trans e67
      have h68 := (hx 68).symm.trans e68
      have h69 := (hx 69).symm.trans e69
      have h70 := (hx 70).symm.trans e70
      have h71 := (hx 71).symm.trans e71
      have h72 := (hx 72).symm.trans e72
      have h73 := (hx 73).symm.trans e73
      have h74 := (hx 74).symm.trans e74
      have h75 := (hx 75).symm.trans e75
      have h76 := (hx 76).symm.trans e76
      have h77 := (hx 77).symm.trans e77
      have h78 := (hx 78).symm.trans e78
      have h79 := (hx 79).symm.trans e79
      have h80 := (hx 80).symm.trans e80
      have h81 := (hx 81).symm.trans e81
      have h82 := (hx 82).symm.trans e82
      have h83 := (hx 83).symm.trans e83
      have h84 := (hx 84).symm.trans e84
      have h85 := (hx 85).symm.trans e85
      have h86 := (hx 86).symm.trans e86
      have h87 := (hx 87).symm.trans e87
      have h88 := (hx 88).symm.trans e88
      have h89 := (hx 89).symm.trans e89
      have h90 := (hx 90).symm.trans e90
      have h91 := (hx 91).symm.trans e91
      have h92 := (hx 92).symm.trans e92
      have h93 := (hx 93).symm.trans e93
      have h94 := (hx 94).symm.trans e94
      have h95 := (hx 95).symm.trans e95
      have h96 := (hx 96).symm.trans e96
      have h97 := (hx 97).symm.trans e97
      have h98 := (hx 98).symm.trans e98
      have h99 := (hx 99).symm.trans e99
      have h100 := (hx 100).symm.trans e100
      have h101 := (hx 101).symm.trans e101
      have h102 := (hx 102).symm.trans e102
      have h103 := (hx 103).symm.trans e103
      have h104 := (hx 104).symm.trans e104
      have h105 := (hx 105).symm.trans e105
      have h106 := (hx 106).symm.trans e106
      have h107 := (hx 107).symm.trans e107
      have h108 := (hx 108).symm.trans e108
      have h109 := (hx 109).symm.trans e109
      have h110 := (hx 110).symm.trans e110
      have h111 := (hx 111).symm.trans e111
      have h112 := (hx 112).symm.trans e112
      have h113 := (hx 113).symm.trans e113
      have h114 := (hx 114).symm.trans e114
      have h115 := (hx 115).symm.trans e115
      have h116 := (hx 116).symm.trans e116
      have h117 := (hx 117).symm.trans e117
      have h118 := (hx 118).symm.trans e118
      have h119 := (hx 119).symm.trans e119
      have h120 := (hx 120).symm.trans e120
      have h143 := (hx 143).symm.trans e143
      have h144 := (hx 144).symm.trans e144
      have h145 := (hx 145).symm.trans e145
      have h146 := (hx 146).symm.trans e146
      have h147 := (hx 147).symm.trans e147
      have h148 := (hx 148).symm.trans e148
      have h149 := (hx 149).symm.trans e149
      have h150 := (hx 150).symm.trans e150
      have h151 := (hx 151).symm.trans e151
      have h152 := (hx 152).symm.trans e152
      have h153 := (hx 153).symm.trans e153
      have h154 := (hx 154).symm.trans e154
      have h155 := (hx 155).symm.trans e155
      have h156 := (hx 156).symm.trans e156
      have h157 := (hx 157).symm.trans e157
      have h158 := (hx 158).symm.trans e158
      have h159 := (hx 159).symm.trans e159
      have h160 := (hx 160).symm.trans e160
      have h161 := (hx 161).symm.trans e161
      have h162 := (hx 162).symm.trans e162
      have h163 := (hx 163).symm.trans e163
      have h164 := (hx 164).symm.trans e164
      have h165 := (hx 165).symm.trans e165
      have h166 := (hx 166).symm.trans e166
      have h167 := (hx 167).symm.trans e167
      have h168 := (hx 168).symm.trans e168
      have h169 := (hx 169).symm.trans e169
      have h170 := (hx 170).symm.trans e170
      have h171 := (hx 171).symm.trans e171
      have h172 := (hx 172).symm.trans e172
      have h173 := (hx 173).symm.trans e173
      have h174 := (hx 174).symm.trans e174
      have h175 := (hx 175).symm.trans e175
      have h176 := (hx 176).symm.trans e176
      have h177 := (hx 177).symm.trans e177
      have h178 := (hx 178).symm.trans e178
      have h179 := (hx 179).symm.trans e179
      have h180 := (hx 180).symm.trans e180
      have h181 := (hx 181).symm.trans e181
      have h182 := (hx 182).symm.trans e182
      have h183 := (hx 183).symm.trans e183
      have h184 := (hx 184).symm.trans e184
      have h185 := (hx 185).symm.trans e185
      have h186 := (hx 186).symm.trans e186
      have h187 := (hx 187).symm.trans e187
      have h188 := (hx 188).symm.trans e188
      have h189 := (hx 189).symm.trans e189
      have h190 := (hx 190).symm.trans e190
      have h191 := (hx 191).symm.trans e191
      have h192 := (hx 192).symm.trans e192
      have h193 := (hx 193).symm.trans e193
      have h194 := (hx 194).symm.trans e194
      have h195 := (hx 195).symm.trans e195
      have h196 := (hx 196).symm.trans e196
      have h197 := (hx 197).symm.trans e197
      have h198 := (hx 198).symm.trans e198
      have h199 := (hx 199).symm.trans e199
      have ht' : t = #[x 0, x 1, x 2, x 3, x 4, x 5, x 6, x 7, x 8, x 9, x 10, x 11, x 12, x 13, x 14, x 15, x 16, x 17, x 18, x 19, x 20, x 21, x 22, x 23, x 24, x 25, x 26, x 27, x 28, x 29, x 30, x 31, x 32, x 33, x 34, x 35, x 36, x 37, x 38, x 39, x 40, x 41, x 42, x 43, x 44, x 45, x 46, x 47, x 48, x 49, x 50, x 51, x 52, x 53, x 54, x 55, x 56, x 57, x 58, x 59, x 60, x 61, x 62, x 63, x 64, x 65, x 66, x 67, x 68, x 69, x 70, x 71, x 72, x 73, x 74, x 75, x 76, x 77, x 78, x 79, x 80, x 81, x 82, x 83, x 84, x 85, x 86, x 87, x 88, x 89, x 90, x 91, x 92, x 93, x 94, x 95, x 96, x 97, x 98, x 99, x 100, x 101, x 102, x 103, x 104, x 105, x 106, x 107, x 108, x 109, x 110, x 111, x 112, x 113, x 114, x 115, x 116, x 117, x 118, x 119, x 120, x 121, x 122, x 123, x 124, x 125, x 126, x 127, x 128, x 129, x 130, x 131, x 132, x 133, x 134, x 135, x 136, x 137, x 138, x 139, x 140, x 141, x 142, x 143, x 144, x 145, x 146, x 147, x 148, x 149, x 150, x 151, x 152, x 153, x 154, x 155, x 156, x 157, x 158, x 159, x 160, x 161, x 162, x 163, x 164, x 165, x 166, x 167, x 168, x 169, x 170, x 171, x 172, x 173, x 174, x 175, x 176, x 177, x 178, x 179, x 180, x 181, x 182, x 183, x 184, x 185, x 186, x 187, x 188, x 189, x 190, x 191, x 192, x 193, x 194, x 195, x 196, x 197, x 198, x 199] := frame_lit t 200 hsz x hx
      clear hx hsz hz e142 e0 e1 e2 e3 e4 e5 e6 e7 e8 e9 e10 e11 e12 e13 e14 e15 e16 e17 e18 e19 e20 e21 e22 e23 e24 e25 e26 e27 e28 e29 e30 e31 e32 e33 e34 e35 e36 e37 e38 e39 e40 e41 e42 e43 e44 e45 e46 e47 e48 e49 e50 e51 e52 e53 e54 e55 e56 e57 e58 e59 e60 e61 e62 e63 e64 e65 e66 e67 e68 e69 e70 e71 e72 e73 e74 e75 e76 e77 e78 e79 e80 e81 e82 e83 e84 e85 e86 e87 e88 e89 e90 e91 e92 e93 e94 e95 e96 e97 e98 e99 e100 e101 e102 e103 e104 e105 e106 e107 e108 e109 e110 e111 e112 e113 e114 e115 e116 e117 e118 e119 e120 e143 e144 e145 e146 e147 e148 e149 e150 e151 e152 e153 e154 e155 e156 e157 e158 e159 e160 e161 e162 e163 e164 e165 e166 e167 e168 e169 e170 e171 e172 e173 e174 e175 e176 e177 e178 e179 e180 e181 e182 e183 e184 e185 e186 e187 e188 e189 e190 e191 e192 e193 e194 e195 e196 e197 e198 e199
      subst ht'
      dsimp only
      rw [h142, h0, h1, h2, h3, h4, h5, h6, h7, h8, h9, h10, h11, h12, h13, h14, h15, h16, h17, h18, h19, h20, h21, h22, h23, h24, h25, h26, h27, h28, h29, h30, h31, h32, h33, h34, h35, h36, h37, h38, h39, h40, h41, h42, h43, h44, h45, h46, h47, h48, h49, h50, h51, h52, h53, h54, h55, h56, h57, h58, h59, h60, h61, h62, h63, h64, h65, h66, h67, h68, h69, h70, h71, h72, h73, h74, h75, h76, h77, h78, h79, h80, h81, h82, h83, h84, h85, h86, h87, h88, h89, h90, h91, h92, h93, h94, h95, h96, h97, h98, h99, h100, h101, h102, h103, h104, h105, h106, h107, h108, h109, h110, h111, h112, h113, h114, h115, h116, h117, h118, h119, h120, h143, h144, h145, h146, h147, h148, h149, h150, h151, h152, h153, h154, h155, h156, h157, h158, h159, h160, h161, h162, h163, h164, h165, h166, h167, h168, h169, h170, h171, h172, h173, h174, h175, h176, h177, h178, h179, h180, h181, h182, h183, h184, h185, h186, h187, h188, h189, h190, h191, h192, h193, h194, h195, h196, h197, h198, h199]
      clear h142 h0 h1 h2 h3 h4 h5 h6 h7 h8 h9 h10 h11 h12 h13 h14 h15 h16 h17 h18 h19 h20 h21 h22 h23 h24 h25 h26 h27 h28 h29 h30 h31 h32 h33 h34 h35 h36 h37 h38 h39 h40 h41 h42 h43 h44 h45 h46 h47 h48 h49 h50 h51 h52 h53 h54 h55 h56 h57 h58 h59 h60 h61 h62 h63 h64 h65 h66 h67 h68 h69 h70 h71 h72 h73 h74 h75 h76 h77 h78 h79 h80 h81 h82 h83 h84 h85 h86 h87 h88 h89 h90 h91 h92 h93 h94 h95 h96 h97 h98 h99 h100 h101 h102 h103 h104 h105 h106 h107 h108 h109 h110 h111 h112 h113 h114 h115 h116 h117 h118 h119 h120 h143 h144 h145 h146 h147 h148 h149 h150 h151 h152 h153 h154 h155 h156 h157 h158 h159 h160 h161 h162 h163 h164 h165 h166 h167 h168 h169 h170 h171 h172 h173 h174 h175 h176 h177 h178 h179 h180 h181 h182 h183 h184 h185 h186 h187 h188 h189 h190 h191 h192 h193 h194 h195 h196 h197 h198 h199
      have hb := from_drew hS
      replace hB := hB.trans (hb.mono hB.size)
      replace hD := hD.later hb
      replace hX := hX.later hb
      replace hrx := hrx.later hb
      replace hY := hY.later hb
      replace hry := hry.later hb
      clear hS hb
      have qD := hD.at
      unfold confBox at qD
      have qX := hX.at
      unfold frBox at qX
      have qY := hY.at
      unfold frBox at qY
      go_wp2_with fail
      refine (HWv.out _).mono ?_
      rintro e wl ⟨rfl, rfl⟩
      have hI : Blk (w6.alloc (.cells #[.int .i64 2, .int .i64 v] 29)) w6.heap.size 29 #[.int .i64 2, .int .i64 v] := Blk.new w6 _ _
      clear qD qX qY
      replace hB := hB.alloc hB.size (.cells #[.int .i64 2, .int .i64 v] 29)
      replace hD := hD.alloc (.cells #[.int .i64 2, .int .i64 v] 29)
      replace hX := hX.alloc (.cells #[.int .i64 2, .int .i64 v] 29)
      replace hY := hY.alloc (.cells #[.int .i64 2, .int .i64 v] 29)
      replace hrx := hrx.alloc (.cells #[.int .i64 2, .int .i64 v] 29)
      replace hry := hry.alloc (.cells #[.int .i64 2, .int .i64 v] 29)
      go_upto_region 25 with fail
      generalize w6.alloc (.cells #[.int .i64 2, .int .i64 v] 29) = w7 at *
      generalize w6.heap.size = vb at *
      have qD := hD.at
      unfold confBox at qD
      have qX := hX.at
      unfold frBox at qX
      have qY := hY.at
      unfold frBox at qY
      have qI := hI.at
      go_wp2_with fail
      refine (HWh.out _).mono ?_
      rintro e wl ⟨rfl, rfl⟩
      have HIt := Lib.hid (fun W (p1 : RowT W ra yF.E) (p2 : RowT W xa xf.E) => rItems_any ra xa yF.E xf.E rc xc W p1 p2)
      rw [HE2.out] at HIt
      go_wp2_with fail
      refine (HIt.out _ hry hrx).mono ?_
      rintro e w8 ⟨rfl, hb⟩
      replace hB := hB.trans (hb.mono hB.size)
      go_wp2
      go_ret
      exact ⟨rfl, hB⟩
    · have b5 : (xf.K == 3) = false := by simpa using h3
      have b6 : (xf.K != 3) = true := by simpa using h3
      have hR := hyB h3
      have b7 : (yF.R != wireI d 5) = false := by simp [hR]
      clear h3 hR hyA hyB hyK hyS hyP
      generalize wireI d 5 = Rw at *
      go_wp2_with fail
      refine (HWh.out _).mono ?_
      rintro e wl ⟨rfl, rfl⟩
      have qD := hD.at
      unfold confBox at qD
      have qX := hX.at
      unfold frBox at qX
      go_wp2_with fail
      refine (HRd.out _).mono ?_
      rintro e w4 ⟨ra, rc, rfl, hry, hfy, hb⟩
      replace hB := hB.trans (hb.mono hB.size)
      replace hD := hD.later hb
      replace hX := hX.later hb
      replace hrx := hrx.later hb
      clear hb qD qX hfy HRd
      have hY : Blk (w4.alloc (.cells #[.int .i64 yF.K, .int .i64 yF.R, .int .i64 yF.S, .int .i64 yF.P.K, .int .i64 yF.P.V, .slice ra yF.E.length rc] 32)) w4.heap.size 32 (frBox yF ra rc) := Blk.new w4 _ _
      replace hB := hB.alloc hB.size (.cells #[.int .i64 yF.K, .int .i64 yF.R, .int .i64 yF.S, .int .i64 yF.P.K, .int .i64 yF.P.V, .slice ra yF.E.length rc] 32)
      replace hD := hD.alloc (.cells #[.int .i64 yF.K, .int .i64 yF.R, .int .i64 yF.S, .int .i64 yF.P.K, .int .i64 yF.P.V, .slice ra yF.E.length rc] 32)
      replace hX := hX.alloc (.cells #[.int .i64 yF.K, .int .i64 yF.R, .int .i64 yF.S, .int .i64 yF.P.K, .int .i64 yF.P.V, .slice ra yF.E.length rc] 32)
      replace hrx := hrx.alloc (.cells #[.int .i64 yF.K, .int .i64 yF.R, .int .i64 yF.S, .int .i64 yF.P.K, .int .i64 yF.P.V, .slice ra yF.E.length rc] 32)
      replace hry := hry.alloc (.cells #[.int .i64 yF.K, .int .i64 yF.R, .int .i64 yF.S, .int .i64 yF.P.K, .int .i64 yF.P.V, .slice ra yF.E.length rc] 32)
      go_upto_region 20 with fail
      generalize w4.alloc (.cells #[.int .i64 yF.K, .int .i64 yF.R, .int .i64 yF.S, .int .i64 yF.P.K, .int .i64 yF.P.V, .slice ra yF.E.length rc] 32) = w5 at *
      generalize w4.heap.size = yb at *
      have qD := hD.at
      unfold confBox at qD
      have qX := hX.at
      unfold frBox at qX
      have qY := hY.at
      unfold frBox at qY
      go_upto_region 22 with fail
      clear qD qX qY
      refine region_slots [some 121, some 122, some 123, some 124, some 125, some 126, some 127, some 128, some 129, some 130, some 131, some 132, some 133, some 134, some 135, some 136, some 137, some 138, some 139, some 140, some 141, some 142] [none, none, none, none, none, none, none, none, none, none, none, none, none, none, none, none, none, none, none, none, none, none] 200 22 rfl (by kernel_rfl) (by kernel_rfl) rfl rfl ?_
      apply step_fix
      · intro a W Zs hS hFm hz hd
        have h14 := hFm.old 14 rfl
        conv at h14 => rhs; whnf
        replace h14 := ev_get hFm.size h14
        refine .inl ⟨wanted_none rfl _, fun K hK => ?_⟩
        have HK := Lib.hid hK
        clear hd hFm hK
        go_simp
        exact HK.out _ _ rfl (Below.refl _ _)
      simp only [List.nil_append, List.cons_append]
      apply step_fix
      · intro a W Zs hS hFm hz hd
        have h121 := ev_get hFm.size (hd 0 121 rfl rfl)
        have hq := (hX.drew1.later hS).at
        unfold frBox at hq
        refine .inl ⟨wanted_none rfl _, fun K hK => ?_⟩
        have HK := Lib.hid hK
        clear hd hFm hK
        go_simp
        exact HK.out _ _ rfl (Below.refl _ _)
      simp only [List.nil_append, List.cons_append]
      apply step_fix
      · intro a W Zs hS hFm hz hd
        have h122 := ev_get hFm.size (hd 1 122 rfl rfl)
        refine .inl ⟨wanted_none rfl _, fun K hK => ?_⟩
        have HK := Lib.hid hK
        clear hd hFm hK
        go_simp
        exact HK.out _ _ rfl (Below.refl _ _)
      simp only [List.nil_append, List.cons_append]
      apply step_fix
      · intro a W Zs hS hFm hz hd
        have h123 := ev_get hFm.size (hd 2 123 rfl rfl)
        refine .inl ⟨wanted_none rfl _, fun K hK => ?_⟩
        have HK := Lib.hid hK
        clear hd hFm hK
        go_simp
        exact HK.out _ _ rfl (Below.refl _ _)
      simp only [List.nil_append, List.cons_append]
      apply step_fix
      · intro a W Zs hS hFm hz hd
        exact .inr ⟨wanted_not rfl rfl (hd 3 124 rfl rfl), rfl⟩
      simp only [List.nil_append, List.cons_append]
      apply step_fix
      · intro a W Zs hS hFm hz hd
        exact .inr ⟨wanted_not rfl rfl (hd 3 124 rfl rfl), rfl⟩
      simp only [List.nil_append, List.cons_append]
      apply step_fix
      · intro a W Zs hS hFm hz hd
        exact .inr ⟨wanted_not rfl rfl (hd 3 124 rfl rfl), rfl⟩
      simp only [List.nil_append, List.cons_append]
      apply step_fix
      · intro a W Zs hS hFm hz hd
        exact .inr ⟨wanted_not rfl rfl (hd 3 124 rfl rfl), rfl⟩
      simp only [List.nil_append, List.cons_append]
      apply step_fix
      · intro a W Zs hS hFm hz hd
        exact .inr ⟨wanted_not rfl rfl (hd 3 124 rfl rfl), rfl⟩
      simp only [List.nil_append, List.cons_append]
      apply step_fix
      · intro a W Zs hS hFm hz hd
        have h124 := ev_get hFm.size (hd 3 124 rfl rfl)
        have h129 := ev_get hFm.size (hd 8 129 rfl rfl)
        refine .inl ⟨wanted_none rfl _, fun K hK => ?_⟩
        have HK := Lib.hid hK
        clear hd hFm hK
        go_simp
        exact HK.out _ _ rfl (Below.refl _ _)
      simp only [List.nil_append, List.cons_append]
      apply step_fix
      · intro a W Zs hS hFm hz hd
        have h130 := ev_get hFm.size (hd 9 130 rfl rfl)
        refine .inl ⟨wanted_none rfl _, fun K hK => ?_⟩
        have HK := Lib.hid hK
        clear hd hFm hK
        go_simp
        exact HK.out _ _ rfl (Below.refl _ _)
      simp only [List.nil_append, List.cons_append]
      apply step_fix
      · intro a W Zs hS hFm hz hd
        have h14 := hFm.old 14 rfl
        conv at h14 => rhs; whnf
        replace h14 := ev_get hFm.size h14
        refine .inl ⟨wanted_at rfl rfl (hd 10 131 rfl rfl), fun K hK => ?_⟩
        have HK := Lib.hid hK
        clear hd hFm hK
        go_simp
        exact HK.out _ _ rfl (Below.refl _ _)
      simp only [List.nil_append, List.cons_append]
      apply step_fix
      · intro a W Zs hS hFm hz hd
        have h132 := ev_get hFm.size (hd 11 132 rfl rfl)
        have hq := (hX.drew1.later hS).at
        unfold frBox at hq
        refine .inl ⟨wanted_at rfl rfl (hd 10 131 rfl rfl), fun K hK => ?_⟩
        have HK := Lib.hid hK
        clear hd hFm hK
        go_simp
        exact HK.out _ _ rfl (Below.refl _ _)
      simp only [List.nil_append, List.cons_append]
      apply step_fix
      · intro a W Zs hS hFm hz hd
        have h133 := ev_get hFm.size (hd 12 133 rfl rfl)
        refine .inl ⟨wanted_at rfl rfl (hd 10 131 rfl rfl), fun K hK => ?_⟩
        have HK := Lib.hid hK
        clear hd hFm hK
        go_simp
        exact HK.out _ _ rfl (Below.refl _ _)
      simp only [List.nil_append, List.cons_append]
      apply step_fix
      · intro a W Zs hS hFm hz hd
        have h134 := ev_get hFm.size (hd 13 134 rfl rfl)
        refine .inl ⟨wanted_at rfl rfl (hd 10 131 rfl rfl), fun K hK => ?_⟩
        have HK := Lib.hid hK
        clear hd hFm hK
        go_simp
        exact HK.out _ _ rfl (Below.refl _ _)
      simp only [List.nil_append, List.cons_append]
      apply step_fix
      · intro a W Zs hS hFm hz hd
        have h18 := hFm.old 18 rfl
        conv at h18 => rhs; whnf
        replace h18 := ev_get hFm.size h18
        refine .inl ⟨wanted_at rfl rfl (hd 14 135 rfl rfl), fun K hK => ?_⟩
        have HK := Lib.hid hK
        clear hd hFm hK
        go_simp
        exact HK.out _ _ rfl (Below.refl _ _)
      simp only [List.nil_append, List.cons_append]
      apply step_fix
      · intro a W Zs hS hFm hz hd
        have h136 := ev_get hFm.size (hd 15 136 rfl rfl)
        have hq := (hY.drew1.later hS).at
        unfold frBox at hq
        refine .inl ⟨wanted_at rfl rfl (hd 14 135 rfl rfl), fun K hK => ?_⟩
        have HK := Lib.hid hK
        clear hd hFm hK
        go_simp
        exact HK.out _ _ rfl (Below.refl _ _)
      simp only [List.nil_append, List.cons_append]
      apply step_fix
      · intro a W Zs hS hFm hz hd
        have h13 := hFm.old 13 rfl
        conv at h13 => rhs; whnf
        replace h13 := ev_get hFm.size h13
        have hq := (hD.drew1.later hS).at
        unfold confBox at hq
        refine .inl ⟨wanted_at rfl rfl (hd 14 135 rfl rfl), fun K hK => ?_⟩
        have HK := Lib.hid hK
        clear hd hFm hK
        go_simp
        exact HK.out _ _ rfl (Below.refl _ _)
      simp only [List.nil_append, List.cons_append]
      apply step_fix
      · intro a W Zs hS hFm hz hd
        have h138 := ev_get hFm.size (hd 17 138 rfl rfl)
        refine .inl ⟨wanted_at rfl rfl (hd 14 135 rfl rfl), fun K hK => ?_⟩
        have HK := Lib.hid hK
        clear hd hFm hK
        go_simp
        refine (HWi.out _).mono ?_
        rintro e W' ⟨rfl, hb⟩
        exact HK.out _ _ rfl hb
      simp only [List.nil_append, List.cons_append]
      apply step_fix
      · intro a W Zs hS hFm hz hd
        have h137 := ev_get hFm.size (hd 16 137 rfl rfl)
        have h139 := ev_get hFm.size (hd 18 139 rfl rfl)
        refine .inl ⟨wanted_at rfl rfl (hd 14 135 rfl rfl), fun K hK => ?_⟩
        have HK := Lib.hid hK
        clear hd hFm hK
        go_simp
        exact HK.out _ _ rfl (Below.refl _ _)
      simp only [List.nil_append, List.cons_append]
      apply step_fix
      · intro a W Zs hS hFm hz hd
        have h135 := ev_get hFm.size (hd 14 135 rfl rfl)
        have h140 := ev_get hFm.size (hd 19 140 rfl rfl)
        refine .inl ⟨wanted_at rfl rfl (hd 10 131 rfl rfl), fun K hK => ?_⟩
        have HK := Lib.hid hK
        clear hd hFm hK
        go_simp
        exact HK.out _ _ rfl (Below.refl _ _)
      simp only [List.nil_append, List.cons_append]
      apply step_fix
      · intro a W Zs hS hFm hz hd
        have h131 := ev_get hFm.size (hd 10 131 rfl rfl)
        have h141 := ev_get hFm.size (hd 20 141 rfl rfl)
        refine .inl ⟨wanted_none rfl _, fun K hK => ?_⟩
        have HK := Lib.hid hK
        clear hd hFm hK
        go_simp
        exact HK.out _ _ rfl (Below.refl _ _)
      simp only [List.nil_append, List.cons_append]
      intro a w6 Zs hS hFm hz hd
      have e142 := hd 21 142 (by decide) rfl
      have e0 := hFm.old 0 rfl
      conv at e0 => rhs; whnf
      have e1 := hFm.old 1 rfl
      conv at e1 => rhs; whnf
      have e2 := hFm.old 2 rfl
      conv at e2 => rhs; whnf
      have e3 := hFm.old 3 rfl
      conv at e3 => rhs; whnf
      have e4 := hFm.old 4 rfl
      conv at e4 => rhs; whnf
      have e5 := hFm.old 5 rfl
      conv at e5 => rhs; whnf
      have e6 := hFm.old 6 rfl
      conv at e6 => rhs; whnf
      have e7 := hFm.old 7 rfl
      conv at e7 => rhs; whnf
      have e8 := hFm.old 8 rfl
      conv at e8 => rhs; whnf
      have e9 := hFm.old 9 rfl
      conv at e9 => rhs; whnf
      have e10 := hFm.old 10 rfl
      conv at e10 => rhs; whnf
      have e11 := hFm.old 11 rfl
      conv at e11 => rhs; whnf
      have e12 := hFm.old 12 rfl
      conv at e12 => rhs; whnf
      have e13 := hFm.old 13 rfl
      conv at e13 => rhs; whnf
      have e14 := hFm.old 14 rfl
      conv at e14 => rhs; whnf
      have e15 := hFm.old 15 rfl
      conv at e15 => rhs; whnf
      have e16 := hFm.old 16 rfl
      conv at e16 => rhs; whnf
      have e17 := hFm.old 17 rfl
      conv at e17 => rhs; whnf
      have e18 := hFm.old 18 rfl
      conv at e18 => rhs; whnf
      have e19 := hFm.old 19 rfl
      conv at e19 => rhs; whnf
      have e20 := hFm.old 20 rfl
      conv at e20 => rhs; whnf
      have e21 := hFm.old 21 rfl
      conv at e21 => rhs; whnf
      have e22 := hFm.old 22 rfl
      conv at e22 => rhs; whnf
      have e23 := hFm.old 23 rfl
      conv at e23 => rhs; whnf
      have e24 := hFm.old 24 rfl
      conv at e24 => rhs; whnf
      have e25 := hFm.old 25 rfl
      conv at e25 => rhs; whnf
      have e26 := hFm.old 26 rfl
      conv at e26 => rhs; whnf
      have e27 := hFm.old 27 rfl
      conv at e27 => rhs; whnf
      have e28 := hFm.old 28 rfl
      conv at e28 => rhs; whnf
      have e29 := hFm.old 29 rfl
      conv at e29 => rhs; whnf
      have e30 := hFm.old 30 rfl
      conv at e30 => rhs; whnf
      have e31 := hFm.old 31 rfl
      conv at e31 => rhs; whnf
      have e32 := hFm.old 32 rfl
      conv at e32 => rhs; whnf
      have e33 := hFm.old 33 rfl
      conv at e33 => rhs; whnf
      have e34 := hFm.old 34 rfl
      conv at e34 => rhs; whnf
      have e35 := hFm.old 35 rfl
      conv at e35 => rhs; whnf
      have e36 := hFm.old 36 rfl
      conv at e36 => rhs; whnf
      have e37 := hFm.old 37 rfl
      conv at e37 => rhs; whnf
      have e38 := hFm.old 38 rfl
      conv at e38 => rhs; whnf
      have e39 := hFm.old 39 rfl
      conv at e39 => rhs; whnf
      have e40 := hFm.old 40 rfl
      conv at e40 => rhs; whnf
      have e41 := hFm.old 41 rfl
      conv at e41 => rhs; whnf
      have e42 := hFm.old 42 rfl
      conv at e42 => rhs; whnf
      have e43 := hFm.old 43 rfl
      conv at e43 => rhs; whnf
      have e44 := hFm.old 44 rfl
      conv at e44 => rhs; whnf
      have e45 := hFm.old 45 rfl
      conv at e45 => rhs; whnf
      have e46 := hFm.old 46 rfl
      conv at e46 => rhs; whnf
      have e47 := hFm.old 47 rfl
      conv at e47 => rhs; whnf
      have e48 := hFm.old 48 rfl
      conv at e48 => rhs; whnf
      have e49 := hFm.old 49 rfl
      conv at e49 => rhs; whnf
      have e50 := hFm.old 50 rfl
      conv at e50 => rhs; whnf
      have e51 := hFm.old 51 rfl
      conv at e51 => rhs; whnf
      have e52 := hFm.old 52 rfl
      conv at e52 => rhs; whnf
      have e53 := hFm.old 53 rfl
      conv at e53 => rhs; whnf
      have e54 := hFm.old 54 rfl
      conv at e54 => rhs; whnf
      have e55 := hFm.old 55 rfl
      conv at e55 => rhs; whnf
      have e56 := hFm.old 56 rfl
      conv at e56 => rhs; whnf
      have e57 := hFm.old 57 rfl
      conv at e57 => rhs; whnf
      have e58 := hFm.old 58 rfl
      conv at e58 => rhs; whnf
      have e59 := hFm.old 59 rfl
      conv at e59 => rhs; whnf
      have e60 := hFm.old 60 rfl
      conv at e60 => rhs; whnf
      have e61 := hFm.old 61 rfl
      conv at e61 => rhs; whnf
      have e62 := hFm.old 62 rfl
      conv at e62 => rhs; whnf
      have e63 := hFm.old 63 rfl
      conv at e63 => rhs; whnf
      have e64 := hFm.old 64 rfl
      conv at e64 => rhs; whnf
      have e65 := hFm.old 65 rfl
      conv at e65 => rhs; whnf
      have e66 := hFm.old 66 rfl
      conv at e66 => rhs; whnf
      have e67 := hFm.old 67 rfl
      conv at e67 => rhs; whnf
      have e68 := hFm.old 68 rfl
      conv at e68 => rhs; whnf
      have e69 := hFm.old 69 rfl
      conv at e69 => rhs; whnf
      have e70 := hFm.old 70 rfl
      conv at e70 => rhs; whnf
      have e71 := hFm.old 71 rfl
      conv at e71 => rhs; whnf
      have e72 := hFm.old 72 rfl
      conv at e72 => rhs; whnf
      have e73 := hFm.old 73 rfl
      conv at e73 => rhs; whnf
      have e74 := hFm.old 74 rfl
      conv at e74 => rhs; whnf
      have e75 := hFm.old 75 rfl
      conv at e75 => rhs; whnf
      have e76 := hFm.old 76 rfl
      conv at e76 => rhs; whnf
      have e77 := hFm.old 77 rfl
      conv at e77 => rhs; whnf
      have e78 := hFm.old 78 rfl
      conv at e78 => rhs; whnf
      have e79 := hFm.old 79 rfl
      conv at e79 => rhs; whnf
      have e80 := hFm.old 80 rfl
      conv at e80 => rhs; whnf
      have e81 := hFm.old 81 rfl
      conv at e81 => rhs; whnf
      have e82 := hFm.old 82 rfl
      conv at e82 => rhs; whnf
      have e83 := hFm.old 83 rfl
      conv at e83 => rhs; whnf
      have e84 := hFm.old 84 rfl
      conv at e84 => rhs; whnf
      have e85 := hFm.old 85 rfl
      conv at e85 => rhs; whnf
      have e86 := hFm.old 86 rfl
      conv at e86 => rhs; whnf
      have e87 := hFm.old 87 rfl
      conv at e87 => rhs; whnf
      have e88 := hFm.old 88 rfl
      conv at e88 => rhs; whnf
      have e89 := hFm.old 89 rfl
      conv at e89 => rhs; whnf
      have e90 := hFm.old 90 rfl
      conv at e90 => rhs; whnf
      have e91 := hFm.old 91 rfl
      conv at e91 => rhs; whnf
      have e92 := hFm.old 92 rfl
      conv at e92 => rhs; whnf
      have e93 := hFm.old 93 rfl
      conv at e93 => rhs; whnf
      have e94 := hFm.old 94 rfl
      conv at e94 => rhs; whnf
      have e95 := hFm.old 95 rfl
      conv at e95 => rhs; whnf
      have e96 := hFm.old 96 rfl
      conv at e96 => rhs; whnf
      have e97 := hFm.old 97 rfl
      conv at e97 => rhs; whnf
      have e98 := hFm.old 98 rfl
      conv at e98 => rhs; whnf
      have e99 := hFm.old 99 rfl
      conv at e99 => rhs; whnf
      have e100 := hFm.old 100 rfl
      conv at e100 => rhs; whnf
      have e101 := hFm.old 101 rfl
      conv at e101 => rhs; whnf
      have e102 := hFm.old 102 rfl
      conv at e102 => rhs; whnf
      have e103 := hFm.old 103 rfl
      conv at e103 => rhs; whnf
      have e104 := hFm.old 104 rfl
      conv at e104 => rhs; whnf
      have e105 := hFm.old 105 rfl
      conv at e105 => rhs; whnf
      have e106 := hFm.old 106 rfl
      conv at e106 => rhs; whnf
      have e107 := hFm.old 107 rfl
      conv at e107 => rhs; whnf
      have e108 := hFm.old 108 rfl
      conv at e108 => rhs; whnf
      have e109 := hFm.old 109 rfl
      conv at e109 => rhs; whnf
      have e110 := hFm.old 110 rfl
      conv at e110 => rhs; whnf
      have e111 := hFm.old 111 rfl
      conv at e111 => rhs; whnf
      have e112 := hFm.old 112 rfl
      conv at e112 => rhs; whnf
      have e113 := hFm.old 113 rfl
      conv at e113 => rhs; whnf
      have e114 := hFm.old 114 rfl
      conv at e114 => rhs; whnf
      have e115 := hFm.old 115 rfl
      conv at e115 => rhs; whnf
      have e116 := hFm.old 116 rfl
      conv at e116 => rhs; whnf
      have e117 := hFm.old 117 rfl
      conv at e117 => rhs; whnf
      have e118 := hFm.old 118 rfl
      conv at e118 => rhs; whnf
      have e119 := hFm.old 119 rfl
      conv at e119 => rhs; whnf
      have e120 := hFm.old 120 rfl
      conv at e120 => rhs; whnf
      have e143 := hFm.old 143 rfl
      conv at e143 => rhs; whnf
      have e144 := hFm.old 144 rfl
      conv at e144 => rhs; whnf
      have e145 := hFm.old 145 rfl
      conv at e145 => rhs; whnf
      have e146 := hFm.old 146 rfl
      conv at e146 => rhs; whnf
      have e147 := hFm.old 147 rfl
      conv at e147 => rhs; whnf
      have e148 := hFm.old 148 rfl
      conv at e148 => rhs; whnf
      have e149 := hFm.old 149 rfl
      conv at e149 => rhs; whnf
      have e150 := hFm.old 150 rfl
      conv at e150 => rhs; whnf
      have e151 := hFm.old 151 rfl
      conv at e151 => rhs; whnf
      have e152 := hFm.old 152 rfl
      conv at e152 => rhs; whnf
      have e153 := hFm.old 153 rfl
      conv at e153 => rhs; whnf
      have e154 := hFm.old 154 rfl
      conv at e154 => rhs; whnf
      have e155 := hFm.old 155 rfl
      conv at e155 => rhs; whnf
      have e156 := hFm.old 156 rfl
      conv at e156 => rhs; whnf
      have e157 := hFm.old 157 rfl
      conv at e157 => rhs; whnf
      have e158 := hFm.old 158 rfl
      conv at e158 => rhs; whnf
      have e159 := hFm.old 159 rfl
      conv at e159 => rhs; whnf
      have e160 := hFm.old 160 rfl
      conv at e160 => rhs; whnf
      have e161 := hFm.old 161 rfl
      conv at e161 => rhs; whnf
      have e162 := hFm.old 162 rfl
      conv at e162 => rhs; whnf
      have e163 := hFm.old 163 rfl
      conv at e163 => rhs; whnf
      have e164 := hFm.old 164 rfl
      conv at e164 => rhs; whnf
      have e165 := hFm.old 165 rfl
      conv at e165 => rhs; whnf
      have e166 := hFm.old 166 rfl
      conv at e166 => rhs; whnf
      have e167 := hFm.old 167 rfl
      conv at e167 => rhs; whnf
      have e168 := hFm.old 168 rfl
      conv at e168 => rhs; whnf
      have e169 := hFm.old 169 rfl
      conv at e169 => rhs; whnf
      have e170 := hFm.old 170 rfl
      conv at e170 => rhs; whnf
      have e171 := hFm.old 171 rfl
      conv at e171 => rhs; whnf
      have e172 := hFm.old 172 rfl
      conv at e172 => rhs; whnf
      have e173 := hFm.old 173 rfl
      conv at e173 => rhs; whnf
      have e174 := hFm.old 174 rfl
      conv at e174 => rhs; whnf
      have e175 := hFm.old 175 rfl
      conv at e175 => rhs; whnf
      have e176 := hFm.old 176 rfl
      conv at e176 => rhs; whnf
      have e177 := hFm.old 177 rfl
      conv at e177 => rhs; whnf
      have e178 := hFm.old 178 rfl
      conv at e178 => rhs; whnf
      have e179 := hFm.old 179 rfl
      conv at e179 => rhs; whnf
      have e180 := hFm.old 180 rfl
      conv at e180 => rhs; whnf
      have e181 := hFm.old 181 rfl
      conv at e181 => rhs; whnf
      have e182 := hFm.old 182 rfl
      conv at e182 => rhs; whnf
      have e183 := hFm.old 183 rfl
      conv at e183 => rhs; whnf
      have e184 := hFm.old 184 rfl
      conv at e184 => rhs; whnf
      have e185 := hFm.old 185 rfl
      conv at e185 => rhs; whnf
      have e186 := hFm.old 186 rfl
      conv at e186 => rhs; whnf
      have e187 := hFm.old 187 rfl
      conv at e187 => rhs; whnf
      have e188 := hFm.old 188 rfl
      conv at e188 => rhs; whnf
      have e189 := hFm.old 189 rfl
      conv at e189 => rhs; whnf
      have e190 := hFm.old 190 rfl
      conv at e190 => rhs; whnf
      have e191 := hFm.old 191 rfl
      conv at e191 => rhs; whnf
      have e192 := hFm.old 192 rfl
      conv at e192 => rhs; whnf
      have e193 := hFm.old 193 rfl
      conv at e193 => rhs; whnf
      have e194 := hFm.old 194 rfl
      conv at e194 => rhs; whnf
      have e195 := hFm.old 195 rfl
      conv at e195 => rhs; whnf
      have e196 := hFm.old 196 rfl
      conv at e196 => rhs; whnf
      have e197 := hFm.old 197 rfl
      conv at e197 => rhs; whnf
      have e198 := hFm.old 198 rfl
      conv at e198 => rhs; whnf
      have e199 := hFm.old 199 rfl
      conv at e199 => rhs; whnf
      have hsz := hFm.size
      have hdf := hFm.defers
      clear hd hFm
      obtain ⟨t, df⟩ := a
      simp only at hsz hdf
      subst hdf
      obtain ⟨x, hx⟩ : ∃ x : Nat → Value, ∀ i, t.getD i undef = x i := ⟨fun i => t.getD i undef, fun _ => rfl⟩
      have h142 := (hx 142).symm.trans e142
      have h0 := (hx 0).symm.trans e0
      have h1 := (hx 1).symm.trans e1
      have h2 := (hx 2).symm.trans e2
      have h3 := (hx 3).symm.trans e3
      have h4 := (hx 4).symm.trans e4
      have h5 := (hx 5).symm.trans e5
      have h6 := (hx 6).symm.trans e6
      have h7 := (hx 7).symm.trans e7
      have h8 := (hx 8).symm.trans e8
      have h9 := (hx 9).symm.trans e9
      have h10 := (hx 10).symm.trans e10
      have h11 := (hx 11).symm.trans e11
      have h12 := (hx 12).symm.trans e12
      have h13 := (hx 13).symm.trans e13
      have h14 := (hx 14).symm.trans e14
      have h15 := (hx 15).symm.trans e15
      have h16 := (hx 16).symm.trans e16
      have h17 := (hx 17).symm.trans e17
      have h18 := (hx 18).symm.trans e18
      have h19 := (hx 19).symm.trans e19
      have h20 := (hx 20).symm.trans e20
      have h21 := (hx 21).symm.trans e21
      have h22 := (hx 22).symm.trans e22
      have h23 := (hx 23).symm.trans e23
      have h24 := (hx 24).symm.trans e24
      have h25 := (hx 25).symm.trans e25
      have h26 := (hx 26).symm.trans e26
      have h27 := (hx 27).symm.trans e27
      have h28 := (hx 28).symm.trans e28
      have h29 := (hx 29).symm.trans e29
      have h30 := (hx 30).symm.trans e30
      have h31 := (hx 31).symm.trans e31
      have h32 := (hx 32).symm.trans e32
      have h33 := (hx 33).symm.trans e33
      have h34 := (hx 34).symm.trans e34
      have h35 := (hx 35).symm.trans e35
      have h36 := (hx 36).symm.trans e36
      have h37 := (hx 37).symm.trans e37
      have h38 := (hx 38).symm.trans e38
      have h39 := (hx 39).symm.trans e39
      have h40 := (hx 40).symm.trans e40
      have h41 := (hx 41).symm.trans e41
      have h42 := (hx 42).symm.trans e42
      have h43 := (hx 43).symm.trans e43
      have h44 := (hx 44).symm.trans e44
      have h45 := (hx 45).symm.trans e45
      have h46 := (hx 46).symm.trans e46
      have h47 := (hx 47).symm.trans e47
      have h48 := (hx 48).symm.trans e48
      have h49 := (hx 49).symm.trans e49
      have h50 := (hx 50).symm.trans e50
      have h51 := (hx 51).symm.trans e51
      have h52 := (hx 52).symm.trans e52
      have h53 := (hx 53).symm.trans e53
      have h54 := (hx 54).symm.trans e54
      have h55 := (hx 55).symm.trans e55
      have h56 := (hx 56).symm.trans e56
      have h57 := (hx 57).symm.trans e57
      have h58 := (hx 58).symm.trans e58
      have h59 := (hx 59).symm.trans e59
      have h60 := (hx 60).symm.trans e60
      have h61 := (hx 61).symm.trans e61
      have h62 := (hx 62).symm.trans e62
      have h63 := (hx 63).symm.trans e63
      have h64 := (hx 64).symm.trans e64
      have h65 := (hx 65).symm.trans e65
      have h66 := (hx 66).symm.trans e66
      have h67 := (hx 67).symm.trans e67
      have h68 := (hx 68).symm.trans e68
      have h69 := (hx 69).symm.trans e69
      have h70 := (hx 70).symm.trans e70
      have h71 := (hx 71).symm.trans e71
      have h72 := (hx 72).symm.trans e72
      have h73 := (hx 73).symm.trans e73
      have h74 := (hx 74).symm.trans e74
      have h75 := (hx 75).symm.trans e75
      have h76 := (hx 76).symm.trans e76
      have h77 := (hx 77).symm.trans e77
      have h78 := (hx 78).symm.trans e78
      have h79 := (hx 79).symm.trans e79
      have h80 := (hx 80).symm.trans e80
      have h81 := (hx 81).symm.trans e81
      have h82 := (hx 82).symm.trans e82
      have h83 := (hx 83).symm.trans e83
      have h84 := (hx 84).symm.trans e84
      have h85 := (hx 85).symm.trans e85
      have h86 := (hx 86).symm.trans e86
      have h87 := (hx 87).symm.trans e87
      have h88 := (hx 88).symm.trans e88
      have h89 := (hx 89).symm.trans e89
      have h90 := (hx 90).symm.trans e90
      have h91 := (hx 91).symm.trans e91
      have h92 := (hx 92).symm.trans e92
      have h93 := (hx 93).symm.trans e93
      have h94 := (hx 94).symm.trans e94
      have h95 := (hx 95).symm.trans e95
      have h96 := (hx 96).symm.trans e96
      have h97 := (hx 97).symm.trans e97
      have h98 := (hx 98).symm.trans e98
      have h99 := (hx 99).symm.trans e99
      have h100 := (hx 100).symm.trans e100
      have h101 := (hx 101).symm.trans e101
      have h102 := (hx 102).symm.trans e102
      have h103 := (hx 103).symm.trans e103
      have h104 := (hx 104).symm.trans e104
      have h105 := (hx 105).symm.trans e105
      have h106 := (hx 106).symm.trans e106
      have h107 := (hx 107).symm.trans e107
      have h108 := (hx 108).symm.trans e108
      have h109 := (hx 109).symm.trans e109
      have h110 := (hx 110).symm.trans e110
      have h111 := (hx 111).symm.trans e111
      have h112 := (hx 112).symm.trans e112
      have h113 := (hx 113).symm.trans e113
      have h114 := (hx 114).symm.trans e114
      have h115 := (hx 115).symm.trans e115
      have h116 := (hx 116).symm.trans e116
      have h117 := (hx 117).symm.trans e117
      have h118 := (hx 118).symm.trans e118
      have h119 := (hx 119).symm.trans e119
      have h120 := (hx 120).symm.trans e120
      have h143 := (hx 143).symm.trans e143
      have h144 := (hx 144).symm.trans e144
      have h145 := (hx 145).symm.trans e145
      have h146 := (hx 146).symm.trans e146
      have h147 := (hx 147).symm.trans e147
      have h148 := (hx 148).symm.trans e148
      have h149 := (hx 149).symm.trans e149
      have h150 := (hx 150).symm.trans e150
      have h151 := (hx 151).symm.trans e151
      have h152 := (hx 152).symm.trans e152
      have h153 := (hx 153).symm.trans e153
      have h154 := (hx 154).symm.trans e154
      have h155 := (hx 155).symm.trans e155
      have h156 := (hx 156).symm.trans e156
      have h157 := (hx 157).symm.trans e157
      have h158 := (hx 158).symm.trans e158
      have h159 := (hx 159).symm.trans e159
      have h160 := (hx 160).symm.trans e160
      have h161 := (hx 161).symm.trans e161
      have h162 := (hx 162).symm.trans e162
      have h163 := (hx 163).symm.trans e163
      have h164 := (hx 164).symm.trans e164
      have h165 := (hx 165).symm.trans e165
      have h166 := (hx 166).symm.trans e166
      have h167 := (hx 167).symm.trans e167
      have h168 := (hx 168).symm.trans e168
      have h169 := (hx 169).symm.trans e169
      have h170 := (hx 170).symm.trans e170
      have h171 := (hx 171).symm.trans e171
      have h172 := (hx 172).symm.trans e172
      have h173 := (hx 173).symm.trans e173
      have h174 := (hx 174).symm.trans e174
      have h175 := (hx 175).symm.trans e175
      have h176 := (hx 176).symm.trans e176
      have h177 := (hx 177).symm.trans e177
      have h178 := (hx 178).symm.trans e178
      have h179 := (hx 179).symm.trans e179
      have h180 := (hx 180).symm.trans e180
      have h181 := (hx 181).symm.trans e181
      have h182 := (hx 182).symm.trans e182
      have h183 := (hx 183).symm.trans e183
      have h184 := (hx 184).symm.trans e184
      have h185 := (hx 185).symm.trans e185
      have h186 := (hx 186).symm.trans e186
      have h187 := (hx 187).symm.trans e187
      have h188 := (hx 188).symm.trans e188
      have h189 := (hx 189).symm.trans e189
      have h190 := (hx 190).symm.trans e190
      have h191 := (hx 191).symm.trans e191
      have h192 := (hx 192).symm.trans e192
      have h193 := (hx 193).symm.trans e193
      have h194 := (hx 194).symm.trans e194
      have h195 := (hx 195).symm.trans e195
      have h196 := (hx 196).symm.trans e196
      have h197 := (hx 197).symm.trans e197
      have h198 := (hx 198).symm.trans e198
      have h199 := (hx 199).symm.trans e199
      have ht' : t = #[x 0, x 1, x 2, x 3, x 4, x 5, x 6, x 7, x 8, x 9, x 10, x 11, x 12, x 13, x 14, x 15, x 16, x 17, x 18, x 19, x 20, x 21, x 22, x 23, x 24, x 25, x 26, x 27, x 28, x 29, x 30, x 31, x 32, x 33, x 34, x 35, x 36, x 37, x 38, x 39, x 40, x 41, x 42, x 43, x 44, x 45, x 46, x 47, x 48, x 49, x 50, x 51, x 52, x 53, x 54, x 55, x 56, x 57, x 58, x 59, x 60, x 61, x 62, x 63, x 64, x 65, x 66, x 67, x 68, x 69, x 70, x 71, x 72, x 73, x 74, x 75, x 76, x 77, x 78, x 79, x 80, x 81, x 82, x 83, x 84, x 85, x 86, x 87, x 88, x 89, x 90, x 91, x 92, x 93, x 94, x 95, x 96, x 97, x 98, x 99, x 100, x 101, x 102, x 103, x 104, x 105, x 106, x 107, x 108, x 109, x 110, x 111, x 112, x 113, x 114, x 115, x 116, x 117, x 118, x 119, x 120, x 121, x 122, x 123, x 124, x 125, x 126, x 127, x 128, x 129, x 130, x 131, x 132, x 133, x 134, x 135, x 136, x 137, x 138, x 139, x 140, x 141, x 142, x 143, x 144, x 145, x 146, x 147, x 148, x 149, x 150, x 151, x 152, x 153, x 154, x 155, x 156, x 157, x 158, x 159, x 160, x 161, x 162, x 163, x 164, x 165, x 166, x 167, x 168, x 169, x 170, x 171, x 172, x 173, x 174, x 175, x 176, x 177, x 178, x 179, x 180, x 181, x 182, x 183, x 184, x 185, x 186, x 187, x 188, x 189, x 190, x 191, x 192, x 193, x 194, x 195, x 196, x 197, x 198, x 199] := frame_lit t 200 hsz x hx
      clear hx hsz hz e142 e0 e1 e2 e3 e4 e5 e6 e7 e8 e9 e10 e11 e12 e13 e14 e15 e16 e17 e18 e19 e20 e21 e22 e23 e24 e25 e26 e27 e28 e29 e30 e31 e32 e33 e34 e35 e36 e37 e38 e39 e40 e41 e42 e43 e44 e45 e46 e47 e48 e49 e50 e51 e52 e53 e54 e55 e56 e57 e58 e59 e60 e61 e62 e63 e64 e65 e66 e67 e68 e69 e70 e71 e72 e73 e74 e75 e76 e77 e78 e79 e80 e81 e82 e83 e84 e85 e86 e87 e88 e89 e90 e91 e92 e93 e94 e95 e96 e97 e98 e99 e100 e101 e102 e103 e104 e105 e106 e107 e108 e109 e110 e111 e112 e113 e114 e115 e116 e117 e118 e119 e120 e143 e144 e145 e146 e147 e148 e149 e150 e151 e152 e153 e154 e155 e156 e157 e158 e159 e160 e161 e162 e163 e164 e165 e166 e167 e168 e169 e170 e171 e172 e173 e174 e175 e176 e177 e178 e179 e180 e181 e182 e183 e184 e185 e186 e187 e188 e189 e190 e191 e192 e193 e194 e195 e196 e197 e198 e199
      subst ht'
      dsimp only
      rw [h142, h0, h1, h2, h3, h4, h5, h6, h7, h8, h9, h10, h11, h12, h13, h14, h15, h16, h17, h18, h19, h20, h21, h22, h23, h24, h25, h26, h27, h28, h29, h30, h31, h32, h33, h34, h35, h36, h37, h38, h39, h40, h41, h42, h43, h44, h45, h46, h47, h48, h49, h50, h51, h52, h53, h54, h55, h56, h57, h58, h59, h60, h61, h62, h63, h64, h65, h66, h67, h68, h69, h70, h71, h72, h73, h74, h75, h76, h77, h78, h79, h80, h81, h82, h83, h84, h85, h86, h87, h88, h89, h90, h91, h92, h93, h94, h95, h96, h97, h98, h99, h100, h101, h102, h103, h104, h105, h106, h107, h108, h109, h110, h111, h112, h113, h114, h115, h116, h117, h118, h119, h120, h143, h144, h145, h146, h147, h148, h149, h150, h151, h152, h153, h154, h155, h156, h157, h158, h159, h160, h161, h162, h163, h164, h165, h166, h167, h168, h169, h170, h171, h172, h173, h174, h175, h176, h177, h178, h179, h180, h181, h182, h183, h184, h185, h186, h187, h188, h189, h190, h191, h192, h193, h194, h195, h196, h197, h198, h199]
      clear h142 h0 h1 h2 h3 h4 h5 h6 h7 h8 h9 h10 h11 h12 h13 h14 h15 h16 h17 h18 h19 h20 h21 h22 h23 h24 h25 h26 h27 h28 h29 h30 h31 h32 h33 h34 h35 h36 h37 h38 h39 h40 h41 h42 h43 h44 h45 h46 h47 h48 h49 h50 h51 h52 h53 h54 h55 h56 h57 h58 h59 h60 h61 h62 h63 h64 h65 h66 h67 h68 h69 h70 h71 h72 h73 h74 h75 h76 h77 h78 h79 h80 h81 h82 h83 h84 h85 h86 h87 h88 h89 h90 h91 h92 h93 h94 h95 h96 h97 h98 h99 h100 h101 h102 h103 h104 h105 h106 h107 h108 h109 h110 h111 h112 h113 h114 h115 h116 h117 h118 h119 h120 h143 h144 h145 h146 h147 h148 h149 h150 h151 h152 h153 h154 h155 h156 h157 h158 h159 h160 h161 h162 h163 h164 h165 h166 h167 h168 h169 h170 h171 h172 h173 h174 h175 h176 h177 h178 h179 h180 h181 h182 h183 h184 h185 h186 h187 h188 h189 h190 h191 h192 h193 h194 h195 h196 h197 h198 h199
      have hb := from_drew hS
      replace hB := hB.trans (hb.mono hB.size)
      replace hD := hD.later hb
      replace hX := hX.later hb
      replace hrx := hrx.later hb
      replace hY := hY.later hb
      replace hry := hry.later hb
      clear hS hb
      have qD := hD.at
      unfold confBox at qD
      have qX := hX.at
      unfold frBox at qX
      have qY := hY.at
      unfold frBox at qY
      go_wp2_with fail
      refine (HWv.out _).mono ?_
      rintro e wl ⟨rfl, rfl⟩
      have hI : Blk (w6.alloc (.cells #[.int .i64 2, .int .i64 v] 29)) w6.heap.size 29 #[.int .i64 2, .int .i64 v] := Blk.new w6 _ _
      clear qD qX qY
      replace hB := hB.alloc hB.size (.cells #[.int .i64 2, .int .i64 v] 29)
      replace hD := hD.alloc (.cells #[.int .i64 2, .int .i64 v] 29)
      replace hX := hX.alloc (.cells #[.int .i64 2, .int .i64 v] 29)
      replace hY := hY.alloc (.cells #[.int .i64 2, .int .i64 v] 29)
      replace hrx := hrx.alloc (.cells #[.int .i64 2, .int .i64 v] 29)
      replace hry := hry.alloc (.cells #[.int .i64 2, .int .i64 v] 29)
      go_upto_region 25 with fail
      generalize w6.alloc (.cells #[.int .i64 2, .int .i64 v] 29) = w7 at *
      generalize w6.heap.size = vb at *
      have qD := hD.at
      unfold confBox at qD
      have qX := hX.at
      unfold frBox at qX
      have qY := hY.at
      unfold frBox at qY
      have qI := hI.at
      go_wp2_with fail
      refine (HWh.out _).mono ?_
      rintro e wl ⟨rfl, rfl⟩
      go_wp2
      go_ret
      exact ⟨rfl, hB⟩
  · rw [h] at HWh HA
    obtain ⟨yF, hokY, hsY0, hyK, hyS, hyE, hyA, hyB⟩ := kinds_ech d xf n hok hokx
    have hsY : s = textF yF := by rw [HA.out]; exact hsY0
    have hl16 := (ok_small hok hokY).2.2.2.2.2
    clear hsY0
    have HRd := Lib.hid (fun W => rRead_any2 d da dc s W hok (by rw [hsY, textF_length]; omega))
    rw [hsY, readF_text d yF hok hokY, ← hsY] at HRd
    replace HRd := Lib.hid (fun W => (HRd.out W).mono fun e w' (hh : ReadRet2 (yF, 0) W e w') => show ReadRet (yF, 0) W e w' from by obtain ⟨a, cap, g1, g2, g3, _, g5⟩ := hh; exact ⟨a, cap, g1, g2, g3, g5⟩)
    have HWi := Lib.hid (fun W => rwire_any d da dc 5 W hok (by omega) (by omega))
    have HWv := Lib.hid (fun W => within6_any n 256 W (by omega) (by omega))
    have b1 : (yF.K != 3) = false := by simp [hyK]
    have b2 : (yF.S != xf.S) = false := by simp [hyS]
    clear h hm0 hm7 HA hsY
    generalize n % 256 = v at *
    by_cases h3 : xf.K = 3
    · have b5 : (xf.K == 3) = true := by simpa using h3
      have b6 : (xf.K != 3) = false := by simpa using h3
      obtain ⟨hR, hP⟩ := hyA h3
      have b7 : (yF.R != xf.R) = false := by simp [hR]
      have b8 : (yF.P.K == xf.P.K) = true := by simp [hP]
      have b9 : (yF.P.V == xf.P.V) = true := by simp [hP]
      clear h3 hR hP hyA hyB hyK hyS HWi
      go_wp2_with fail
      refine (HWh.out _).mono ?_
      rintro e wl ⟨rfl, rfl⟩
      have qD := hD.at
      unfold confBox at qD
      have qX := hX.at
      unfold frBox at qX
      go_wp2_with fail
      refine (HRd.out _).mono ?_
      rintro e w4 ⟨ra, rc, rfl, hry, hfy, hb⟩
      replace hB := hB.trans (hb.mono hB.size)
      replace hD := hD.later hb
      replace hX := hX.later hb
      replace hrx := hrx.later hb
      clear hb qD qX hfy HRd
      have hY : Blk (w4.alloc (.cells #[.int .i64 yF.K, .int .i64 yF.R, .int .i64 yF.S, .int .i64 yF.P.K, .int .i64 yF.P.V, .slice ra yF.E.length rc] 32)) w4.heap.size 32 (frBox yF ra rc) := Blk.new w4 _ _
      replace hB := hB.alloc hB.size (.cells #[.int .i64 yF.K, .int .i64 yF.R, .int .i64 yF.S, .int .i64 yF.P.K, .int .i64 yF.P.V, .slice ra yF.E.length rc] 32)
      replace hD := hD.alloc (.cells #[.int .i64 yF.K, .int .i64 yF.R, .int .i64 yF.S, .int .i64 yF.P.K, .int .i64 yF.P.V, .slice ra yF.E.length rc] 32)
      replace hX := hX.alloc (.cells #[.int .i64 yF.K, .int .i64 yF.R, .int .i64 yF.S, .int .i64 yF.P.K, .int .i64 yF.P.V, .slice ra yF.E.length rc] 32)
      replace hrx := hrx.alloc (.cells #[.int .i64 yF.K, .int .i64 yF.R, .int .i64 yF.S, .int .i64 yF.P.K, .int .i64 yF.P.V, .slice ra yF.E.length rc] 32)
      replace hry := hry.alloc (.cells #[.int .i64 yF.K, .int .i64 yF.R, .int .i64 yF.S, .int .i64 yF.P.K, .int .i64 yF.P.V, .slice ra yF.E.length rc] 32)
      go_upto_region 20 with fail
      generalize w4.alloc (.cells #[.int .i64 yF.K, .int .i64 yF.R, .int .i64 yF.S, .int .i64 yF.P.K, .int .i64 yF.P.V, .slice ra yF.E.length rc] 32) = w5 at *
      generalize w4.heap.size = yb at *
      have qD := hD.at
      unfold confBox at qD
      have qX := hX.at
      unfold frBox at qX
      have qY := hY.at
      unfold frBox at qY
      go_upto_region 22 with fail
      clear qD qX qY
      refine region_slots [some 121, some 122, some 123, some 124, some 125, some 126, some 127, some 128, some 129, some 130, some 131, some 132, some 133, some 134, some 135, some 136, some 137, some 138, some 139, some 140, some 141, some 142] [none, none, none, none, none, none, none, none, none, none, none, none, none, none, none, none, none, none, none, none, none, none] 200 22 rfl (by kernel_rfl) (by kernel_rfl) rfl rfl ?_
      apply step_fix
      · intro a W Zs hS hFm hz hd
        have h14 := hFm.old 14 rfl
        conv at h14 => rhs; whnf
        replace h14 := ev_get hFm.size h14
        refine .inl ⟨wanted_none rfl _, fun K hK => ?_⟩
        have HK := Lib.hid hK
        clear hd hFm hK
        go_simp
        exact HK.out _ _ rfl (Below.refl _ _)
      simp only [List.nil_append, List.cons_append]
      apply step_fix
      · intro a W Zs hS hFm hz hd
        have h121 := ev_get hFm.size (hd 0 121 rfl rfl)
        have hq := (hX.drew1.later hS).at
        unfold frBox at hq
        refine .inl ⟨wanted_none rfl _, fun K hK => ?_⟩
        have HK := Lib.hid hK
        clear hd hFm hK
        go_simp
        exact HK.out _ _ rfl (Below.refl _ _)
      simp only [List.nil_append, List.cons_append]
      apply step_fix
      · intro a W Zs hS hFm hz hd
        have h122 := ev_get hFm.size (hd 1 122 rfl rfl)
        refine .inl ⟨wanted_none rfl _, fun K hK => ?_⟩
        have HK := Lib.hid hK
        clear hd hFm hK
        go_simp
        exact HK.out _ _ rfl (Below.refl _ _)
      simp only [List.nil_append, List.cons_append]
      apply step_fix
      · intro a W Zs hS hFm hz hd
        have h123 := ev_get hFm.size (hd 2 123 rfl rfl)
        refine .inl ⟨wanted_none rfl _, fun K hK => ?_⟩
        have HK := Lib.hid hK
        clear hd hFm hK
        go_simp
        exact HK.out _ _ rfl (Below.refl _ _)
      simp only [List.nil_append, List.cons_append]
      apply step_fix
      · intro a W Zs hS hFm hz hd
        have h18 := hFm.old 18 rfl
        conv at h18 => rhs; whnf
        replace h18 := ev_get hFm.size h18
        refine .inl ⟨wanted_at rfl rfl (hd 3 124 rfl rfl), fun K hK => ?_⟩
        have HK := Lib.hid hK
        clear hd hFm hK
        go_simp
        exact HK.out _ _ rfl (Below.refl _ _)
      simp only [List.nil_append, List.cons_append]
      apply step_fix
      · intro a W Zs hS hFm hz hd
        have h125 := ev_get hFm.size (hd 4 125 rfl rfl)
        have hq := (hY.drew1.later hS).at
        unfold frBox at hq
        refine .inl ⟨wanted_at rfl rfl (hd 3 124 rfl rfl), fun K hK => ?_⟩
        have HK := Lib.hid hK
        clear hd hFm hK
        go_simp
        exact HK.out _ _ rfl (Below.refl _ _)
      simp only [List.nil_append, List.cons_append]
      apply step_fix
      · intro a W Zs hS hFm hz hd
        have h14 := hFm.old 14 rfl
        conv at h14 => rhs; whnf
        replace h14 := ev_get hFm.size h14
        refine .inl ⟨wanted_at rfl rfl (hd 3 124 rfl rfl), fun K hK => ?_⟩
        have HK := Lib.hid hK
        clear hd hFm hK
        go_simp
        exact HK.out _ _ rfl (Below.refl _ _)
      simp only [List.nil_append, List.cons_append]
      apply step_fix
      · intro a W Zs hS hFm hz hd
        have h127 := ev_get hFm.size (hd 6 127 rfl rfl)
        have hq := (hX.drew1.later hS).at
        unfold frBox at hq
        refine .inl ⟨wanted_at rfl rfl (hd 3 124 rfl rfl), fun K hK => ?_⟩
        have HK := Lib.hid hK
        clear hd hFm hK
        go_simp
        exact HK.out _ _ rfl (Below.refl _ _)
      simp only [List.nil_append, List.cons_append]
      apply step_fix
      · intro a W Zs hS hFm hz hd
        have h126 := ev_get hFm.size (hd 5 126 rfl rfl)
        have h128 := ev_get hFm.size (hd 7 128 rfl rfl)
        refine .inl ⟨wanted_at rfl rfl (hd 3 124 rfl rfl), fun K hK => ?_⟩
        have HK := Lib.hid hK
        clear hd hFm hK
        go_simp
        exact HK.out _ _ rfl (Below.refl _ _)
      simp only [List.nil_append, List.cons_append]
      apply step_fix
      · intro a W Zs hS hFm hz hd
        have h124 := ev_get hFm.size (hd 3 124 rfl rfl)
        have h129 := ev_get hFm.size (hd 8 129 rfl rfl)
        refine .inl ⟨wanted_none rfl _, fun K hK => ?_⟩
        have HK := Lib.hid hK
        clear hd hFm hK
        go_simp
        exact HK.out _ _ rfl (Below.refl _ _)
      simp only [List.nil_append, List.cons_append]
      apply step_fix
      · intro a W Zs hS hFm hz hd
        have h130 := ev_get hFm.size (hd 9 130 rfl rfl)
        refine .inl ⟨wanted_none rfl _, fun K hK => ?_⟩
        have HK := Lib.hid hK
        clear hd hFm hK
        go_simp
        exact HK.out _ _ rfl (Below.refl _ _)
      simp only [List.nil_append, List.cons_append]
      apply step_fix
      · intro a W Zs hS hFm hz hd
        have h14 := hFm.old 14 rfl
        conv at h14 => rhs; whnf
        replace h14 := ev_get hFm.size h14
        refine .inl ⟨wanted_at rfl rfl (hd 10 131 rfl rfl), fun K hK => ?_⟩
        have HK := Lib.hid hK
        clear hd hFm hK
        go_simp
        exact HK.out _ _ rfl (Below.refl _ _)
      simp only [List.nil_append, List.cons_append]
      apply step_fix
      · intro a W Zs hS hFm hz hd
        have h132 := ev_get hFm.size (hd 11 132 rfl rfl)
        have hq := (hX.drew1.later hS).at
        unfold frBox at hq
        refine .inl ⟨wanted_at rfl rfl (hd 10 131 rfl rfl), fun K hK => ?_⟩
        have HK := Lib.hid hK
        clear hd hFm hK
        go_simp
        exact HK.out _ _ rfl (Below.refl _ _)
      simp only [List.nil_append, List.cons_append]
      apply step_fix
      · intro a W Zs hS hFm hz hd
        have h133 := ev_get hFm.size (hd 12 133 rfl rfl)
        refine .inl ⟨wanted_at rfl rfl (hd 10 131 rfl rfl), fun K hK => ?_⟩
        have HK := Lib.hid hK
        clear hd hFm hK
        go_simp
        exact HK.out _ _ rfl (Below.refl _ _)
      simp only [List.nil_append, List.cons_append]
      apply step_fix
      · intro a W Zs hS hFm hz hd
        have h134 := ev_get hFm.size (hd 13 134 rfl rfl)
        refine .inl ⟨wanted_at rfl rfl (hd 10 131 rfl rfl), fun K hK => ?_⟩
        have HK := Lib.hid hK
        clear hd hFm hK
        go_simp
        exact HK.out _ _ rfl (Below.refl _ _)
      simp only [List.nil_append, List.cons_append]
      apply step_fix
      · intro a W Zs hS hFm hz hd
        exact .inr ⟨wanted_not rfl rfl (hd 14 135 rfl rfl), rfl⟩
      simp only [List.nil_append, List.cons_append]
      apply step_fix
      · intro a W Zs hS hFm hz hd
        exact .inr ⟨wanted_not rfl rfl (hd 14 135 rfl rfl), rfl⟩
      simp only [List.nil_append, List.cons_append]
      apply step_fix
      · intro a W Zs hS hFm hz hd
        exact .inr ⟨wanted_not rfl rfl (hd 14 135 rfl rfl), rfl⟩
      simp only [List.nil_append, List.cons_append]
      apply step_fix
      · intro a W Zs hS hFm hz hd
        exact .inr ⟨wanted_not rfl rfl (hd 14 135 rfl rfl), rfl⟩
      simp only [List.nil_append, List.cons_append]
      apply step_fix
      · intro a W Zs hS hFm hz hd
        exact .inr ⟨wanted_not rfl rfl (hd 14 135 rfl rfl), rfl⟩
      simp only [List.nil_append, List.cons_append]
      apply step_fix
      · intro a W Zs hS hFm hz hd
        have h135 := ev_get hFm.size (hd 14 135 rfl rfl)
        have h140 := ev_get hFm.size (hd 19 140 rfl rfl)
        refine .inl ⟨wanted_at rfl rfl (hd 10 131 rfl rfl), fun K hK => ?_⟩
        have HK := Lib.hid hK
        clear hd hFm hK
        go_simp
        exact HK.out _ _ rfl (Below.refl _ _)
      simp only [List.nil_append, List.cons_append]
      apply step_fix
      · intro a W Zs hS hFm hz hd
        have h131 := ev_get hFm.size (hd 10 131 rfl rfl)
        have h141 := ev_get hFm.size (hd 20 141 rfl rfl)
        refine .inl ⟨wanted_none rfl _, fun K hK => ?_⟩
        have HK := Lib.hid hK
        clear hd hFm hK
        go_simp
        exact HK.out _ _ rfl (Below.refl _ _)
      simp only [List.nil_append, List.cons_append]
      intro a w6 Zs hS hFm hz hd
      have e142 := hd 21 142 (by decide) rfl
      have e0 := hFm.old 0 rfl
      conv at e0 => rhs; whnf
      have e1 := hFm.old 1 rfl
      conv at e1 => rhs; whnf
      have e2 := hFm.old 2 rfl
      conv at e2 => rhs; whnf
      have e3 := hFm.old 3 rfl
      conv at e3 => rhs; whnf
      have e4 := hFm.old 4 rfl
      conv at e4 => rhs; whnf
      have e5 := hFm.old 5 rfl
      conv at e5 => rhs; whnf
      have e6 := hFm.old 6 rfl
      conv at e6 => rhs; whnf
      have e7 := hFm.old 7 rfl
      conv at e7 => rhs; whnf
      have e8 := hFm.old 8 rfl
      conv at e8 => rhs; whnf
      have e9 := hFm.old 9 rfl
      conv at e9 => rhs; whnf
      have e10 := hFm.old 10 rfl
      conv at e10 => rhs; whnf
      have e11 := hFm.old 11 rfl
      conv at e11 => rhs; whnf
      have e12 := hFm.old 12 rfl
      conv at e12 => rhs; whnf
      have e13 := hFm.old 13 rfl
      conv at e13 => rhs; whnf
      have e14 := hFm.old 14 rfl
      conv at e14 => rhs; whnf
      have e15 := hFm.old 15 rfl
      conv at e15 => rhs; whnf
      have e16 := hFm.old 16 rfl
      conv at e16 => rhs; whnf
      have e17 := hFm.old 17 rfl
      conv at e17 => rhs; whnf
      have e18 := hFm.old 18 rfl
      conv at e18 => rhs; whnf
      have e19 := hFm.old 19 rfl
      conv at e19 => rhs; whnf
      have e20 := hFm.old 20 rfl
      conv at e20 => rhs; whnf
      have e21 := hFm.old 21 rfl
      conv at e21 => rhs; whnf
      have e22 := hFm.old 22 rfl
      conv at e22 => rhs; whnf
      have e23 := hFm.old 23 rfl
      conv at e23 => rhs; whnf
      have e24 := hFm.old 24 rfl
      conv at e24 => rhs; whnf
      have e25 := hFm.old 25 rfl
      conv at e25 => rhs; whnf
      have e26 := hFm.old 26 rfl
      conv at e26 => rhs; whnf
      have e27 := hFm.old 27 rfl
      conv at e27 => rhs; whnf
      have e28 := hFm.old 28 rfl
      conv at e28 => rhs; whnf
      have e29 := hFm.old 29 rfl
      conv at e29 => rhs; whnf
      have e30 := hFm.old 30 rfl
      conv at e30 => rhs; whnf
      have e31 := hFm.old 31 rfl
      conv at e31 => rhs; whnf
      have e32 := hFm.old 32 rfl
      conv at e32 => rhs; whnf
      have e33 := hFm.old 33 rfl
      conv at e33 => rhs; whnf
      have e34 := hFm.old 34 rfl
      conv at e34 => rhs; whnf
      have e35 := hFm.old 35 rfl
      conv at e35 => rhs; whnf
      have e36 := hFm.old 36 rfl
      conv at e36 => rhs; whnf
      have e37 := hFm.old 37 rfl
      conv at e37 => rhs; whnf
      have e38 := hFm.old 38 rfl
      conv at e38 => rhs; whnf
      have e39 := hFm.old 39 rfl
      conv at e39 => rhs; whnf
      have e40 := hFm.old 40 rfl
      conv at e40 => rhs; whnf
      have e41 := hFm.old 41 rfl
      conv at e41 => rhs; whnf
      have e42 := hFm.old 42 rfl
      conv at e42 => rhs; whnf
      have e43 := hFm.old 43 rfl
      conv at e43 => rhs; whnf
      have e44 := hFm.old 44 rfl
      conv at e44 => rhs; whnf
      have e45 := hFm.old 45 rfl
      conv at e45 => rhs; whnf
      have e46 := hFm.old 46 rfl
      conv at e46 => rhs; whnf
      have e47 := hFm.old 47 rfl
      conv at e47 => rhs; whnf
      have e48 := hFm.old 48 rfl
      conv at e48 => rhs; whnf
      have e49 := hFm.old 49 rfl
      conv at e49 => rhs; whnf
      have e50 := hFm.old 50 rfl
      conv at e50 => rhs; whnf
      have e51 := hFm.old 51 rfl
      conv at e51 => rhs; whnf
      have e52 := hFm.old 52 rfl
      conv at e52 => rhs; whnf
      have e53 := hFm.old 53 rfl
      conv at e53 => rhs; whnf
      have e54 := hFm.old 54 rfl
      conv at e54 => rhs; whnf
      have e55 := hFm.old 55 rfl
      conv at e55 => rhs; whnf
      have e56 := hFm.old 56 rfl
      conv at e56 => rhs; whnf
      have e57 := hFm.old 57 rfl
      conv at e57 => rhs; whnf
      have e58 := hFm.old 58 rfl
      conv at e58 => rhs; whnf
      have e59 := hFm.old 59 rfl
      conv at e59 => rhs; whnf
      have e60 := hFm.old 60 rfl
      conv at e60 => rhs; whnf
      have e61 := hFm.old 61 rfl
      conv at e61 => rhs; whnf
      have e62 := hFm.old 62 rfl
      conv at e62 => rhs; whnf
      have e63 := hFm.old 63 rfl
      conv at e63 => rhs; whnf
      have e64 := hFm.old 64 rfl
      conv at e64 => rhs; whnf
      have e65 := hFm.old 65 rfl
      conv at e65 => rhs; whnf
      have e66 := hFm.old 66 rfl
      conv at e66 => rhs; whnf
      have e67 := hFm.old 67 rfl
      conv at e67 => rhs; whnf
      have e68 := hFm.old 68 rfl
      conv at e68 => rhs; whnf
      have e69 := hFm.old 69 rfl
      conv at e69 => rhs; whnf
      have e70 := hFm.old 70 rfl
      conv at e70 => rhs; whnf
      have e71 := hFm.old 71 rfl
      conv at e71 => rhs; whnf
      have e72 := hFm.old 72 rfl
      conv at e72 => rhs; whnf
      have e73 := hFm.old 73 rfl
      conv at e73 => rhs; whnf
      have e74 := hFm.old 74 rfl
      conv at e74 => rhs; whnf
      have e75 := hFm.old 75 rfl
      conv at e75 => rhs; whnf
      have e76 := hFm.old 76 rfl
      conv at e76 => rhs; whnf
      have e77 := hFm.old 77 rfl
      conv at e77 => rhs; whnf
      have e78 := hFm.old 78 rfl
      conv at e78 => rhs; whnf
      have e79 := hFm.old 79 rfl
      conv at e79 => rhs; whnf
      have e80 := hFm.old 80 rfl
      conv at e80 => rhs; whnf
      have e81 := hFm.old 81 rfl
      conv at e81 => rhs; whnf
      have e82 := hFm.old 82 rfl
      conv at e82 => rhs; whnf
      have e83 := hFm.old 83 rfl
      conv at e83 => rhs; whnf
      have e84 := hFm.old 84 rfl
      conv at e84 => rhs; whnf
      have e85 := hFm.old 85 rfl
      conv at e85 => rhs; whnf
      have e86 := hFm.old 86 rfl
      conv at e86 => rhs; whnf
      have e87 := hFm.old 87 rfl
      conv at e87 => rhs; whnf
      have e88 := hFm.old 88 rfl
      conv at e88 => rhs; whnf
      have e89 := hFm.old 89 rfl
      conv at e89 => rhs; whnf
      have e90 := hFm.old 90 rfl
      conv at e90 => rhs; whnf
      have e91 := hFm.old 91 rfl
      conv at e91 => rhs; whnf
      have e92 := hFm.old 92 rfl
      conv at e92 => rhs; whnf
      have e93 := hFm.old 93 rfl
      conv at e93 => rhs; whnf
      have e94 := hFm.old 94 rfl
      conv at e94 => rhs; whnf
      have e95 := hFm.old 95 rfl
      conv at e95 => rhs; whnf
      have e96 := hFm.old 96 rfl
      conv at e96 => rhs; whnf
      have e97 := hFm.old 97 rfl
      conv at e97 => rhs; whnf
      have e98 := hFm.old 98 rfl
      conv at e98 => rhs; whnf
      have e99 := hFm.old 99 rfl
      conv at e99 => rhs; whnf
      have e100 := hFm.old 100 rfl
      conv at e100 => rhs; whnf
      have e101 := hFm.old 101 rfl
      conv at e101 => rhs; whnf
      have e102 := hFm.old 102 rfl
      conv at e102 => rhs; whnf
      have e103 := hFm.old 103 rfl
      conv at e103 => rhs; whnf
      have e104 := hFm.old 104 rfl
      conv at e104 => rhs; whnf
      have e105 := hFm.old 105 rfl
      conv at e105 => rhs; whnf
      have e106 := hFm.old 106 rfl
      conv at e106 => rhs; whnf
      have e107 := hFm.old 107 rfl
      conv at e107 => rhs; whnf
      have e108 := hFm.old 108 rfl
      conv at e108 => rhs; whnf
      have e109 := hFm.old 109 rfl
      conv at e109 => rhs; whnf
      have e110 := hFm.old 110 rfl
      conv at e110 => rhs; whnf
      have e111 := hFm.old 111 rfl
      conv at e111 => rhs; whnf
      have e112 := hFm.old 112 rfl
      conv at e112 => rhs; whnf
      have e113 := hFm.old 113 rfl
      conv at e113 => rhs; whnf
      have e114 := hFm.old 114 rfl
      conv at e114 => rhs; whnf
      have e115 := hFm.old 115 rfl
      conv at e115 => rhs; whnf
      have e116 := hFm.old 116 rfl
      conv at e116 => rhs; whnf
      have e117 := hFm.old 117 rfl
      conv at e117 => rhs; whnf
      have e118 := hFm.old 118 rfl
      conv at e118 => rhs; whnf
      have e119 := hFm.old 119 rfl
      conv at e119 => rhs; whnf
      have e120 := hFm.old 120 rfl
      conv at e120 => rhs; whnf
      have e143 := hFm.old 143 rfl
      conv at e143 => rhs; whnf
      have e144 := hFm.old 144 rfl
      conv at e144 => rhs; whnf
      have e145 := hFm.old 145 rfl
      conv at e145 => rhs; whnf
      have e146 := hFm.old 146 rfl
      conv at e146 => rhs; whnf
      have e147 := hFm.old 147 rfl
      conv at e147 => rhs; whnf
      have e148 := hFm.old 148 rfl
      conv at e148 => rhs; whnf
      have e149 := hFm.old 149 rfl
      conv at e149 => rhs; whnf
      have e150 := hFm.old 150 rfl
      conv at e150 => rhs; whnf
      have e151 := hFm.old 151 rfl
      conv at e151 => rhs; whnf
      have e152 := hFm.old 152 rfl
      conv at e152 => rhs; whnf
      have e153 := hFm.old 153 rfl
      conv at e153 => rhs; whnf
      have e154 := hFm.old 154 rfl
      conv at e154 => rhs; whnf
      have e155 := hFm.old 155 rfl
      conv at e155 => rhs; whnf
      have e156 := hFm.old 156 rfl
      conv at e156 => rhs; whnf
      have e157 := hFm.old 157 rfl
      conv at e157 => rhs; whnf
      have e158 := hFm.old 158 rfl
      conv at e158 => rhs; whnf
      have e159 := hFm.old 159 rfl
      conv at e159 => rhs; whnf
      have e160 := hFm.old 160 rfl
      conv at e160 => rhs; whnf
      have e161 := hFm.old 161 rfl
      conv at e161 => rhs; whnf
      have e162 := hFm.old 162 rfl
      conv at e162 => rhs; whnf
      have e163 := hFm.old 163 rfl
      conv at e163 => rhs; whnf
      have e164 := hFm.old 164 rfl
      conv at e164 => rhs; whnf
      have e165 := hFm.old 165 rfl
      conv at e165 => rhs; whnf
      have e166 := hFm.old 166 rfl
      conv at e166 => rhs; whnf
      have e167 := hFm.old 167 rfl
      conv at e167 => rhs; whnf
      have e168 := hFm.old 168 rfl
      conv at e168 => rhs; whnf
      have e169 := hFm.old 169 rfl
      conv at e169 => rhs; whnf
      have e170 := hFm.old 170 rfl
      conv at e170 => rhs; whnf
      have e171 := hFm.old 171 rfl
      conv at e171 => rhs; whnf
      have e172 := hFm.old 172 rfl
      conv at e172 => rhs; whnf
      have e173 := hFm.old 173 rfl
      conv at e173 => rhs; whnf
      have e174 := hFm.old 174 rfl
      conv at e174 => rhs; whnf
      have e175 := hFm.old 175 rfl
      conv at e175 => rhs; whnf
      have e176 := hFm.old 176 rfl
      conv at e176 => rhs; whnf
      have e177 := hFm.old 177 rfl
      conv at e177 => rhs; whnf
      have e178 := hFm.old 178 rfl
      conv at e178 => rhs; whnf
      have e179 := hFm.old 179 rfl
      conv at e179 => rhs; whnf
      have e180 := hFm.old 180 rfl
      conv at e180 => rhs; whnf
      have e181 := hFm.old 181 rfl
      conv at e181 => rhs; whnf
      have e182 := hFm.old 182 rfl
      conv at e182 => rhs; whnf
      have e183 := hFm.old 183 rfl
      conv at e183 => rhs; whnf
      have e184 := hFm.old 184 rfl
      conv at e184 => rhs; whnf
      have e185 := hFm.old 185 rfl
      conv at e185 => rhs; whnf
      have e186 := hFm.old 186 rfl
      conv at e186 => rhs; whnf
      have e187 := hFm.old 187 rfl
      conv at e187 => rhs; whnf
      have e188 := hFm.old 188 rfl
      conv at e188 => rhs; whnf
      have e189 := hFm.old 189 rfl
      conv at e189 => rhs; whnf
      have e190 := hFm.old 190 rfl
      conv at e190 => rhs; whnf
      have e191 := hFm.old 191 rfl
      conv at e191 => rhs; whnf
      have e192 := hFm.old 192 rfl
      conv at e192 => rhs; whnf
      have e193 := hFm.old 193 rfl
      conv at e193 => rhs; whnf
      have e194 := hFm.old 194 rfl
      conv at e194 => rhs; whnf
      have e195 := hFm.old 195 rfl
      conv at e195 => rhs; whnf
      have e196 := hFm.old 196 rfl
      conv at e196 => rhs; whnf
      have e197 := hFm.old 197 rfl
      conv at e197 => rhs; whnf
      have e198 := hFm.old 198 rfl
      conv at e198 => rhs; whnf
      have e199 := hFm.old 199 rfl
      conv at e199 => rhs; whnf
      have hsz := hFm.size
      have hdf := hFm.defers
      clear hd hFm
      obtain ⟨t, df⟩ := a
      simp only at hsz hdf
      subst hdf
      obtain ⟨x, hx⟩ : ∃ x : Nat → Value, ∀ i, t.getD i undef = x i := ⟨fun i => t.getD i undef, fun _ => rfl⟩
      have h142 := (hx 142).symm.trans e142
      have h0 := (hx 0).symm.trans e0
      have h1 := (hx 1).symm.trans e1
      have h2 := (hx 2).symm.trans e2
      have h3 := (hx 3).symm.trans e3
      have h4 := (hx 4).symm.trans e4
      have h5 := (hx 5).symm.trans e5
      have h6 := (hx 6).symm.trans e6
      have h7 := (hx 7).symm.trans e7
      have h8 := (hx 8).symm.trans e8
      have h9 := (hx 9).symm.trans e9
      have h10 := (hx 10).symm.trans e10
      have h11 := (hx 11).symm.trans e11
      have h12 := (hx 12).symm.trans e12
      have h13 := (hx 13).symm.trans e13
      have h14 := (hx 14).symm.trans e14
      have h15 := (hx 15).symm.trans e15
      have h16 := (hx 16).symm.trans e16
      have h17 := (hx 17).symm.trans e17
      have h18 := (hx 18).symm.trans e18
      have h19 := (hx 19).symm.trans e19
      have h20 := (hx 20).symm.trans e20
      have h21 := (hx 21).symm.trans e21
      have h22 := (hx 22).symm.trans e22
      have h23 := (hx 23).symm.trans e23
      have h24 := (hx 24).symm.trans e24
      have h25 := (hx 25).symm.trans e25
      have h26 := (hx 26).symm.trans e26
      have h27 := (hx 27).symm.trans e27
      have h28 := (hx 28).symm.trans e28
      have h29 := (hx 29).symm.trans e29
      have h30 := (hx 30).symm.trans e30
      have h31 := (hx 31).symm.trans e31
      have h32 := (hx 32).symm.trans e32
      have h33 := (hx 33).symm.trans e33
      have h34 := (hx 34).symm.trans e34
      have h35 := (hx 35).symm.trans e35
      have h36 := (hx 36).symm.trans e36
      have h37 := (hx 37).symm.trans e37
      have h38 := (hx 38).symm.trans e38
      have h39 := (hx 39).symm.trans e39
      have h40 := (hx 40).symm.trans e40
      have h41 := (hx 41).symm.trans e41
      have h42 := (hx 42).symm.trans e42
      have h43 := (hx 43).symm.trans e43
      have h44 := (hx 44).symm.trans e44
      have h45 := (hx 45).symm.trans e45
      have h46 := (hx 46).symm.trans e46
      have h47 := (hx 47).symm.trans e47
      have h48 := (hx 48).symm.trans e48
      have h49 := (hx 49).symm.trans e49
      have h50 := (hx 50).symm.trans e50
      have h51 := (hx 51).symm.trans e51
      have h52 := (hx 52).symm.trans e52
      have h53 := (hx 53).symm.trans e53
      have h54 := (hx 54).symm.trans e54
      have h55 := (hx 55).symm.trans e55
      have h56 := (hx 56).symm.trans e56
      have h57 := (hx 57).symm.trans e57
      have h58 := (hx 58).symm.trans e58
      have h59 := (hx 59).symm.trans e59
      have h60 := (hx 60).symm.trans e60
      have h61 := (hx 61).symm.trans e61
      have h62 := (hx 62).symm.trans e62
      have h63 := (hx 63).symm.trans e63
      have h64 := (hx 64).symm.trans e64
      have h65 := (hx 65).symm.trans e65
      have h66 := (hx 66).symm.trans e66
      have h67 := (hx 67).symm.trans e67
      have h68 := (hx 68).symm.trans e68
      have h69 := (hx 69).symm.trans e69
      have h70 := (hx 70).symm.trans e70
      have h71 := (hx 71).symm.trans e71
      have h72 := (hx 72).symm.trans e72
      have h73 := (hx 73).symm.trans e73
      have h74 := (hx 74).symm.trans e74
      have h75 := (hx 75).symm.trans e75
      have h76 := (hx 76).symm.trans e76
      have h77 := (hx 77).symm.trans e77
      have h78 := (hx 78).symm.trans e78
      have h79 := (hx 79).symm.trans e79
      have h80 := (hx 80).symm.trans e80
      have h81 := (hx 81).symm.trans e81
      have h82 := (hx 82).symm.trans e82
      have h83 := (hx 83).symm.trans e83
      have h84 := (hx 84).symm.trans e84
      have h85 := (hx 85).symm.trans e85
      have h86 := (hx 86).symm.trans e86
      have h87 := (hx 87).symm.trans e87
      have h88 := (hx 88).symm.trans e88
      have h89 := (hx 89).symm.trans e89
      have h90 := (hx 90).symm.trans e90
      have h91 := (hx 91).symm.trans e91
      have h92 := (hx 92).symm.trans e92
      have h93 := (hx 93).symm.trans e93
      have h94 := (hx 94).symm.trans e94
      have h95 := (hx 95).symm.trans e95
      have h96 := (hx 96).symm.trans e96
      have h97 := (hx 97).symm.trans e97
      have h98 := (hx 98).symm.trans e98
      have h99 := (hx 99).symm.trans e99
      have h100 := (hx 100).symm.trans e100
      have h101 := (hx 101).symm.trans e101
      have h102 := (hx 102).symm.trans e102
      have h103 := (hx 103).symm.trans e103
      have h104 := (hx 104).symm.trans e104
      have h105 := (hx 105).symm.trans e105
      have h106 := (hx 106).symm.trans e106
      have h107 := (hx 107).symm.trans e107
      have h108 := (hx 108).symm.trans e108
      have h109 := (hx 109).symm.trans e109
      have h110 := (hx 110).symm.trans e110
      have h111 := (hx 111).symm.trans e111
      have h112 := (hx 112).symm.trans e112
      have h113 := (hx 113).symm.trans e113
      have h114 := (hx 114).symm.trans e114
      have h115 := (hx 115).symm.trans e115
      have h116 := (hx 116).symm.trans e116
      have h117 := (hx 117).symm.trans e117
      have h118 := (hx 118).symm.trans e118
      have h119 := (hx 119).symm.trans e119
      have h120 := (hx 120).symm.trans e120
      have h143 := (hx 143).symm.trans e143
      have h144 := (hx 144).symm.trans e144
      have h145 := (hx 145).symm.trans e145
      have h146 := (hx 146).symm.trans e146
      have h147 := (hx 147).symm.trans e147
      have h148 := (hx 148).symm.trans e148
      have h149 := (hx 149).symm.trans e149
      have h150 := (hx 150).symm.trans e150
      have h151 := (hx 151).symm.trans e151
      have h152 := (hx 152).symm.trans e152
      have h153 := (hx 153).symm.trans e153
      have h154 := (hx 154).symm.trans e154
      have h155 := (hx 155).symm.trans e155
      have h156 := (hx 156).symm.trans e156
      have h157 := (hx 157).symm.trans e157
      have h158 := (hx 158).symm.trans e158
      have h159 := (hx 159).symm.trans e159
      have h160 := (hx 160).symm.trans e160
      have h161 := (hx 161).symm.trans e161
      have h162 := (hx 162).symm.trans e162
      have h163 := (hx 163).symm.trans e163
      have h164 := (hx 164).symm.trans e164
      have h165 := (hx 165).symm.trans e165
      have h166 := (hx 166).symm.trans e166
      have h167 := (hx 167).symm.trans e167
      have h168 := (hx 168).symm.trans e168
      have h169 := (hx 169).symm.trans e169
      have h170 := (hx 170).symm.trans e170
      have h171 := (hx 171).symm.trans e171
      have h172 := (hx 172).symm.trans e172
      have h173 := (hx 173).symm.trans e173
      have h174 := (hx 174).symm.trans e174
      have h175 := (hx 175).symm.trans e175
      have h176 := (hx 176).symm.trans e176
      have h177 := (hx 177).symm.trans e177
      have h178 := (hx 178).symm.trans e178
      have h179 := (hx 179).symm.trans e179
      have h180 := (hx 180).symm.trans e180
      have h181 := (hx 181).symm.trans e181
      have h182 := (hx 182).symm.trans e182
      have h183 := (hx 183).symm.trans e183
      have h184 := (hx 184).symm.trans e184
      have h185 := (hx 185).symm.trans e185
      have h186 := (hx 186).symm.trans e186
      have h187 := (hx 187).symm.trans e187
      have h188 := (hx 188).symm.trans e188
      have h189 := (hx 189).symm.trans e189
      have h190 := (hx 190).symm.trans e190
      have h191 := (hx 191).symm.trans e191
      have h192 := (hx 192).symm.trans e192
      have h193 := (hx 193).symm.trans e193
      have h194 := (hx 194).symm.trans e194
      have h195 := (hx 195).symm.trans e195
      have h196 := (hx 196).symm.trans e196
      have h197 := (hx 197).symm.trans e197
      have h198 := (hx 198).symm.trans e198
      have h199 := (hx 199).symm.trans e199
      have ht' : t = #[x 0, x 1, x 2, x 3, x 4, x 5, x 6, x 7, x 8, x 9, x 10, x 11, x 12, x 13, x 14, x 15, x 16, x 17, x 18, x 19, x 20, x 21, x 22, x 23, x 24, x 25, x 26, x 27, x 28, x 29, x 30, x 31, x 32, x 33, x 34, x 35, x 36, x 37, x 38, x 39, x 40, x 41, x 42, x 43, x 44, x 45, x 46, x 47, x 48, x 49, x 50, x 51, x 52, x 53, x 54, x 55, x 56, x 57, x 58, x 59, x 60, x 61, x 62, x 63, x 64, x 65, x 66, x 67, x 68, x 69, x 70, x 71, x 72, x 73, x 74, x 75, x 76, x 77, x 78, x 79, x 80, x 81, x 82, x 83, x 84, x 85, x 86, x 87, x 88, x 89, x 90, x 91, x 92, x 93, x 94, x 95, x 96, x 97, x 98, x 99, x 100, x 101, x 102, x 103, x 104, x 105, x 106, x 107, x 108, x 109, x 110, x 111, x 112, x 113, x 114, x 115, x 116, x 117, x 118, x 119, x 120, x 121, x 122, x 123, x 124, x 125, x 126, x 127, x 128, x 129, x 130, x 131, x 132, x 133, x 134, x 135, x 136, x 137, x 138, x 139, x 140, x 141, x 142, x 143, x 144, x 145, x 146, x 147, x 148, x 149, x 150, x 151, x 152, x 153, x 154, x 155, x 156, x 157, x 158, x 159, x 160, x 161, x 162, x 163, x 164, x 165, x 166, x 167, x 168, x 169, x 170, x 171, x 172, x 173, x 174, x 175, x 176, x 177, x 178, x 179, x 180, x 181, x 182, x 183, x 184, x 185, x 186, x 187, x 188, x 189, x 190, x 191, x 192, x 193, x 194, x 195, x 196, x 197, x 198, x 199] := frame_lit t 200 hsz x hx
      clear hx hsz hz e142 e0 e1 e2 e3 e4 e5 e6 e7 e8 e9 e10 e11 e12 e13 e14 e15 e16 e17 e18 e19 e20 e21 e22 e23 e24 e25 e26 e27 e28 e29 e30 e31 e32 e33 e34 e35 e36 e37 e38 e39 e40 e41 e42 e43 e44 e45 e46 e47 e48 e49 e50 e51 e52 e53 e54 e55 e56 e57 e58 e59 e60 e61 e62 e63 e64 e65 e66 e67 e68 e69 e70 e71 e72 e73 e74 e75 e76 e77 e78 e79 e80 e81 e82 e83 e84 e85 e86 e87 e88 e89 e90 e91 e92 e93 e94 e95 e96 e97 e98 e99 e100 e101 e102 e103 e104 e105 e106 e107 e108 e109 e110 e111 e112 e113 e114 e115 e116 e117 e118 e119 e120 e143 e144 e145 e146 e147 e148 e149 e150 e151 e152 e153 e154 e155 e156 e157 e158 e159 e160 e161 e162 e163 e164 e165 e166 e167 e168 e169 e170 e171 e172 e173 e174 e175 e176 e177 e178 e179 e180 e181 e182 e183 e184 e185 e186 e187 e188 e189 e190 e191 e192 e193 e194 e195 e196 e197 e198 e199
      subst ht'
      dsimp only
      rw [h142, h0, h1, h2, h3, h4, h5, h6, h7, h8, h9, h10, h11, h12, h13, h14, h15, h16, h17, h18, h19, h20, h21, h22, h23, h24, h25, h26, h27, h28, h29, h30, h31, h32, h33, h34, h35, h36, h37, h38, h39, h40, h41, h42, h43, h44, h45, h46, h47, h48, h49, h50, h51, h52, h53, h54, h55, h56, h57, h58, h59, h60, h61, h62, h63, h64, h65, h66, h67, h68, h69, h70, h71, h72, h73, h74, h75, h76, h77, h78, h79, h80, h81, h82, h83, h84, h85, h86, h87, h88, h89, h90, h91, h92, h93, h94, h95, h96, h97, h98, h99, h100, h101, h102, h103, h104, h105, h106, h107, h108, h109, h110, h111, h112, h113, h114, h115, h116, h117, h118, h119, h120, h143, h144, h145, h146, h147, h148, h149, h150, h151, h152, h153, h154, h155, h156, h157, h158, h159, h160, h161, h162, h163, h164, h165, h166, h167, h168, h169, h170, h171, h172, h173, h174, h175, h176, h177, h178, h179, h180, h181, h182, h183, h184, h185, h186, h187, h188, h189, h190, h191, h192, h193, h194, h195, h196, h197, h198, h199]
      clear h142 h0 h1 h2 h3 h4 h5 h6 h7 h8 h9 h10 h11 h12 h13 h14 h15 h16 h17 h18 h19 h20 h21 h22 h23 h24 h25 h26 h27 h28 h29 h30 h31 h32 h33 h34 h35 h36 h37 h38 h39 h40 h41 h42 h43 h44 h45 h46 h47 h48 h49 h50 h51 h52 h53 h54 h55 h56 h57 h58 h59 h60 h61 h62 h63 h64 h65 h66 h67 h68 h69 h70 h71 h72 h73 h74 h75 h76 h77 h78 h79 h80 h81 h82 h83 h84 h85 h86 h87 h88 h89 h90 h91 h92 h93 h94 h95 h96 h97 h98 h99 h100 h101 h102 h103 h104 h105 h106 h107 h108 h109 h110 h111 h112 h113 h114 h115 h116 h117 h118 h119 h120 h143 h144 h145 h146 h147 h148 h149 h150 h151 h152 h153 h154 h155 h156 h157 h158 h159 h160 h161 h162 h163 h164 h165 h166 h167 h168 h169 h170 h171 h172 h173 h174 h175 h176 h177 h178 h179 h180 h181 h182 h183 h184 h185 h186 h187 h188 h189 h190 h191 h192 h193 h194 h195 h196 h197 h198 h199
      have hb := from_drew hS
      replace hB := hB.trans (hb.mono hB.size)
      replace hD := hD.later hb
      replace hX := hX.later hb
      replace hrx := hrx.later hb
      replace hY := hY.later hb
      replace hry := hry.later hb
      clear hS hb
      have qD := hD.at
      unfold confBox at qD
      have qX := hX.at
      unfold frBox at qX
      have qY := hY.at
      unfold frBox at qY
      go_wp2_with fail
      refine (HWv.out _).mono ?_
      rintro e wl ⟨rfl, rfl⟩
      have hI : Blk (w6.alloc (.cells #[.int .i64 2, .int .i64 v] 29)) w6.heap.size 29 #[.int .i64 2, .int .i64 v] := Blk.new w6 _ _
      clear qD qX qY
      replace hB := hB.alloc hB.size (.cells #[.int .i64 2, .int .i64 v] 29)
      replace hD := hD.alloc (.cells #[.int .i64 2, .int .i64 v] 29)
      replace hX := hX.alloc (.cells #[.int .i64 2, .int .i64 v] 29)
      replace hY := hY.alloc (.cells #[.int .i64 2, .int .i64 v] 29)
      replace hrx := hrx.alloc (.cells #[.int .i64 2, .int .i64 v] 29)
      replace hry := hry.alloc (.cells #[.int .i64 2, .int .i64 v] 29)
      go_upto_region 25 with fail
      generalize w6.alloc (.cells #[.int .i64 2, .int .i64 v] 29) = w7 at *
      generalize w6.heap.size = vb at *
      have qD := hD.at
      unfold confBox at qD
      have qX := hX.at
      unfold frBox at qX
      have qY := hY.at
      unfold frBox at qY
      have qI := hI.at
      go_wp2_with fail
      refine (HWh.out _).mono ?_
      rintro e wl ⟨rfl, rfl⟩
      go_upto_region 28 with fail
      clear qD qX qY qI
      go_loopw [21] (fun i w' => ∃ k : Nat, i = .int .i64 k ∧ k ≤ yF.E.length ∧ Below w.heap.size w w' ∧ Blk w' yb 32 (frBox yF ra rc) ∧ Blk w' xb 32 (frBox xf xa xc) ∧ Blk w' vb 29 #[.int .i64 2, .int .i64 v] ∧ RowT w' ra yF.E) (fun i _ => yF.E.length - (intOf i).toNat)
      case atStart => exact ⟨0, rfl, Nat.zero_le _, hB, hY, hX, hI, hry⟩
      case round =>
        clear hB hY hX hI hry hD hrx
        obtain ⟨k, rfl, hk, hB, hY, hX, hI, hry⟩ := hrel
        have qY := hY.at
        unfold frBox at qY
        have qX := hX.at
        unfold frBox at qX
        by_cases hlt : k < yF.E.length
        · have d3 : decide (k < yF.E.length) = true := by simpa using hlt
          have d3' : decide ((k : Int) < (yF.E.length : Int)) = true := by simp; omega
          obtain ⟨t, ht⟩ : ∃ t, yF.E[k] = t := ⟨_, rfl⟩
          have htv : t = ⟨2, v⟩ := hyE t (by rw [← ht]; exact List.getElem_mem hlt)
          obtain ⟨b1, o1, rfl, hb1, _, _, _, _⟩ := hry.get k hlt
          have HCt := Lib.hid (fun W (hh : RowT W (some ⟨b1, o1, none⟩) yF.E) => hh.cellsAt k hlt)
          rw [ht, htv] at HCt
          clear ht htv hb1
          have k0 : (0 : Int) ≤ (k : Int) := by omega
          have k1 : (k : Int) < (yF.E.length : Int) := by omega
          have c1 : (v == v) = true := by simp
          go_upto_region 30 with fail
          clear qY qX
          refine region_slots [some 172, some 173, some 174, some 175, some 176, some 177, some 178] [none, none, none, none, none, none, none] 200 7 rfl (by kernel_rfl) (by kernel_rfl) rfl rfl ?_
          apply step_fix
          · intro a W Zs hS hFm hz hd
            have h18 := hFm.old 18 rfl
            conv at h18 => rhs; whnf
            replace h18 := ev_get hFm.size h18
            refine .inl ⟨wanted_none rfl _, fun K hK => ?_⟩
            have HK := Lib.hid hK
            clear hd hFm hK
            go_simp
            exact HK.out _ _ rfl (Below.refl _ _)
          simp only [List.nil_append, List.cons_append]
          apply step_fix
          · intro a W Zs hS hFm hz hd
            have h172 := ev_get hFm.size (hd 0 172 rfl rfl)
            have hq := (hY.drew1.later hS).at
            unfold frBox at hq
            refine .inl ⟨wanted_none rfl _, fun K hK => ?_⟩
            have HK := Lib.hid hK
            clear hd hFm hK
            go_simp
            exact HK.out _ _ rfl (Below.refl _ _)
          simp only [List.nil_append, List.cons_append]
          apply step_fix
          · intro a W Zs hS hFm hz hd
            have h21 := hFm.old 21 rfl
            conv at h21 => rhs; whnf
            replace h21 := ev_get hFm.size h21
            refine .inl ⟨wanted_none rfl _, fun K hK => ?_⟩
            have HK := Lib.hid hK
            clear hd hFm hK
            go_simp
            exact HK.out _ _ rfl (Below.refl _ _)
          simp only [List.nil_append, List.cons_append]
          apply step_fix
          · intro a W Zs hS hFm hz hd
            have h173 := ev_get hFm.size (hd 1 173 rfl rfl)
            have h174 := ev_get hFm.size (hd 2 174 rfl rfl)
            refine .inl ⟨wanted_none rfl _, fun K hK => ?_⟩
            have HK := Lib.hid hK
            clear hd hFm hK
            go_simp
            exact HK.out _ _ rfl (Below.refl _ _)
          simp only [List.nil_append, List.cons_append]
          apply step_fix
          · intro a W Zs hS hFm hz hd
            have h175 := ev_get hFm.size (hd 3 175 rfl rfl)
            obtain ⟨hq1, hq2⟩ := HCt.out _ (hry.drew1.later hS)
            refine .inl ⟨wanted_none rfl _, fun K hK => ?_⟩
            have HK := Lib.hid hK
            clear hd hFm hK
            go_simp
            exact HK.out _ _ rfl (Below.refl _ _)
          simp only [List.nil_append, List.cons_append]
          apply step_fix
          · intro a W Zs hS hFm hz hd
            have h20 := hFm.old 20 rfl
            conv at h20 => rhs; whnf
            replace h20 := ev_get hFm.size h20
            have hq := (hI.drew1.later hS).at
            refine .inl ⟨wanted_none rfl _, fun K hK => ?_⟩
            have HK := Lib.hid hK
            clear hd hFm hK
            go_simp
            exact HK.out _ _ rfl (Below.refl _ _)
          simp only [List.nil_append, List.cons_append]
          apply step_fix
          · intro a W Zs hS hFm hz hd
            have h176 := ev_get hFm.size (hd 4 176 rfl rfl)
            have h177 := ev_get hFm.size (hd 5 177 rfl rfl)
            refine .inl ⟨wanted_none rfl _, fun K hK => ?_⟩
            have HK := Lib.hid hK
            clear hd hFm hK
            go_simp
            exact HK.out _ _ rfl (Below.refl _ _)
          simp only [List.nil_append, List.cons_append]
          intro a w8 Zs hS hFm hz hd
          have e178 := hd 6 178 (by decide) rfl
          have e0 := hFm.old 0 rfl
          conv at e0 => rhs; whnf
          have e1 := hFm.old 1 rfl
          conv at e1 => rhs; whnf
          have e2 := hFm.old 2 rfl
          conv at e2 => rhs; whnf
          have e3 := hFm.old 3 rfl
          conv at e3 => rhs; whnf
          have e4 := hFm.old 4 rfl
          conv at e4 => rhs; whnf
          have e5 := hFm.old 5 rfl
          conv at e5 => rhs; whnf
          have e6 := hFm.old 6 rfl
          conv at e6 => rhs; whnf
          have e7 := hFm.old 7 rfl
          conv at e7 => rhs; whnf
          have e8 := hFm.old 8 rfl
          conv at e8 => rhs; whnf
          have e9 := hFm.old 9 rfl
          conv at e9 => rhs; whnf
          have e10 := hFm.old 10 rfl
          conv at e10 => rhs; whnf
          have e11 := hFm.old 11 rfl
          conv at e11 => rhs; whnf
          have e12 := hFm.old 12 rfl
          conv at e12 => rhs; whnf
          have e13 := hFm.old 13 rfl
          conv at e13 => rhs; whnf
          have e14 := hFm.old 14 rfl
          conv at e14 => rhs; whnf
          have e15 := hFm.old 15 rfl
          conv at e15 => rhs; whnf
          have e16 := hFm.old 16 rfl
          conv at e16 => rhs; whnf
          have e17 := hFm.old 17 rfl
          conv at e17 => rhs; whnf
          have e18 := hFm.old 18 rfl
          conv at e18 => rhs; whnf
          have e19 := hFm.old 19 rfl
          conv at e19 => rhs; whnf
          have e20 := hFm.old 20 rfl
          conv at e20 => rhs; whnf
          have e21 := hFm.old 21 rfl
          conv at e21 => rhs; whnf
          have e22 := hFm.old 22 rfl
          conv at e22 => rhs; whnf
          have e23 := hFm.old 23 rfl
          conv at e23 => rhs; whnf
          have e24 := hFm.old 24 rfl
          conv at e24 => rhs; whnf
          have e25 := hFm.old 25 rfl
          conv at e25 => rhs; whnf
          have e26 := hFm.old 26 rfl
          conv at e26 => rhs; whnf
          have e27 := hFm.old 27 rfl
          conv at e27 => rhs; whnf
          have e28 := hFm.old 28 rfl
          conv at e28 => rhs; whnf
          have e29 := hFm.old 29 rfl
          conv at e29 => rhs; whnf
          have e30 := hFm.old 30 rfl
          conv at e30 => rhs; whnf
          have e31 := hFm.old 31 rfl
          conv at e31 => rhs; whnf
          have e32 := hFm.old 32 rfl
          conv at e32 => rhs; whnf
          have e33 := hFm.old 33 rfl
          conv at e33 => rhs; whnf
          have e34 := hFm.old 34 rfl
          conv at e34 => rhs; whnf
          have e35 := hFm.old 35 rfl
          conv at e35 => rhs; whnf
          have e36 := hFm.old 36 rfl
          conv at e36 => rhs; whnf
          have e37 := hFm.old 37 rfl
          conv at e37 => rhs; whnf
          have e38 := hFm.old 38 rfl
          conv at e38 => rhs; whnf
          have e39 := hFm.old 39 rfl
          conv at e39 => rhs; whnf
          have e40 := hFm.old 40 rfl
          conv at e40 => rhs; whnf
          have e41 := hFm.old 41 rfl
          conv at e41 => rhs; whnf
          have e42 := hFm.old 42 rfl
          conv at e42 => rhs; whnf
          have e43 := hFm.old 43 rfl
          conv at e43 => rhs; whnf
          have e44 := hFm.old 44 rfl
          conv at e44 => rhs; whnf
          have e45 := hFm.old 45 rfl
          conv at e45 => rhs; whnf
          have e46 := hFm.old 46 rfl
          conv at e46 => rhs; whnf
          have e47 := hFm.old 47 rfl
          conv at e47 => rhs; whnf
          have e48 := hFm.old 48 rfl
          conv at e48 => rhs; whnf
          have e49 := hFm.old 49 rfl
          conv at e49 => rhs; whnf
          have e50 := hFm.old 50 rfl
          conv at e50 => rhs; whnf
          have e51 := hFm.old 51 rfl
          conv at e51 => rhs; whnf
          have e52 := hFm.old 52 rfl
          conv at e52 => rhs; whnf
          have e53 := hFm.old 53 rfl
          conv at e53 => rhs; whnf
          have e54 := hFm.old 54 rfl
          conv at e54 => rhs; whnf
          have e55 := hFm.old 55 rfl
          conv at e55 => rhs; whnf
          have e56 := hFm.old 56 rfl
          conv at e56 => rhs; whnf
          have e57 := hFm.old 57 rfl
          conv at e57 => rhs; whnf
          have e58 := hFm.old 58 rfl
          conv at e58 => rhs; whnf
          have e59 := hFm.old 59 rfl
          conv at e59 => rhs; whnf
          have e60 := hFm.old 60 rfl
          conv at e60 => rhs; whnf
          have e61 := hFm.old 61 rfl
          conv at e61 => rhs; whnf
          have e62 := hFm.old 62 rfl
          conv at e62 => rhs; whnf
          have e63 := hFm.old 63 rfl
          conv at e63 => rhs; whnf
          have e64 := hFm.old 64 rfl
          conv at e64 => rhs; whnf
          have e65 := hFm.old 65 rfl
          conv at e65 => rhs; whnf
          have e66 := hFm.old 66 rfl
          conv at e66 => rhs; whnf
          have e67 := hFm.old 67 rfl
          conv at e67 => rhs; whnf
          have e68 := hFm.old 68 rfl
          conv at e68 => rhs; whnf
          have e69 := hFm.old 69 rfl
          conv at e69 => rhs; whnf
          have e70 := hFm.old 70 rfl
          conv at e70 => rhs; whnf
          have e71 := hFm.old 71 rfl
          conv at e71 => rhs; whnf
          have e72 := hFm.old 72 rfl
          conv at e72 => rhs; whnf
          have e73 := hFm.old 73 rfl
          conv at e73 => rhs; whnf
          have e74 := hFm.old 74 rfl
          conv at e74 => rhs; whnf
          have e75 := hFm.old 75 rfl
          conv at e75 => rhs; whnf
          have e76 := hFm.old 76 rfl
          conv at e76 => rhs; whnf
          have e77 := hFm.old 77 rfl
          conv at e77 => rhs; whnf
          have e78 := hFm.old 78 rfl
          conv at e78 => rhs; whnf
          have e79 := hFm.old 79 rfl
          conv at e79 => rhs; whnf
          have e80 := hFm.old 80 rfl
          conv at e80 => rhs; whnf
          have e81 := hFm.old 81 rfl
          conv at e81 => rhs; whnf
          have e82 := hFm.old 82 rfl
          conv at e82 => rhs; whnf
          have e83 := hFm.old 83 rfl
          conv at e83 => rhs; whnf
          have e84 := hFm.old 84 rfl
          conv at e84 => rhs; whnf
          have e85 := hFm.old 85 rfl
          conv at e85 => rhs; whnf
          have e86 := hFm.old 86 rfl
          conv at e86 => rhs; whnf
          have e87 := hFm.old 87 rfl
          conv at e87 => rhs; whnf
          have e88 := hFm.old 88 rfl
          conv at e88 => rhs; whnf
          have e89 := hFm.old 89 rfl
          conv at e89 => rhs; whnf
          have e90 := hFm.old 90 rfl
          conv at e90 => rhs; whnf
          have e91 := hFm.old 91 rfl
          conv at e91 => rhs; whnf
          have e92 := hFm.old 92 rfl
          conv at e92 => rhs; whnf
          have e93 := hFm.old 93 rfl
          conv at e93 => rhs; whnf
          have e94 := hFm.old 94 rfl
          conv at e94 => rhs; whnf
          have e95 := hFm.old 95 rfl
          conv at e95 => rhs; whnf
          have e96 := hFm.old 96 rfl
          conv at e96 => rhs; whnf
          have e97 := hFm.old 97 rfl
          conv at e97 => rhs; whnf
          have e98 := hFm.old 98 rfl
          conv at e98 => rhs; whnf
          have e99 := hFm.old 99 rfl
          conv at e99 => rhs; whnf
          have e100 := hFm.old 100 rfl
          conv at e100 => rhs; whnf
          have e101 := hFm.old 101 rfl
          conv at e101 => rhs; whnf
          have e102 := hFm.old 102 rfl
          conv at e102 => rhs; whnf
          have e103 := hFm.old 103 rfl
          conv at e103 => rhs; whnf
          have e104 := hFm.old 104 rfl
          conv at e104 => rhs; whnf
          have e105 := hFm.old 105 rfl
          conv at e105 => rhs; whnf
          have e106 := hFm.old 106 rfl
          conv at e106 => rhs; whnf
          have e107 := hFm.old 107 rfl
          conv at e107 => rhs; whnf
          have e108 := hFm.old 108 rfl
          conv at e108 => rhs; whnf
          have e109 := hFm.old 109 rfl
          conv at e109 => rhs; whnf
          have e110 := hFm.old 110 rfl
          conv at e110 => rhs; whnf
          have e111 := hFm.old 111 rfl
          conv at e111 => rhs; whnf
          have e112 := hFm.old 112 rfl
          conv at e112 => rhs; whnf
          have e113 := hFm.old 113 rfl
          conv at e113 => rhs; whnf
          have e114 := hFm.old 114 rfl
          conv at e114 => rhs; whnf
          have e115 := hFm.old 115 rfl
          conv at e115 => rhs; whnf
          have e116 := hFm.old 116 rfl
          conv at e116 => rhs; whnf
          have e117 := hFm.old 117 rfl
          conv at e117 => rhs; whnf
          have e118 := hFm.old 118 rfl
          conv at e118 => rhs; whnf
          have e119 := hFm.old 119 rfl
          conv at e119 => rhs; whnf
          have e120 := hFm.old 120 rfl
          conv at e120 => rhs; whnf
          have e121 := hFm.old 121 rfl
          conv at e121 => rhs; whnf
          have e122 := hFm.old 122 rfl
          conv at e122 => rhs; whnf
          have e123 := hFm.old 123 rfl
          conv at e123 => rhs; whnf
          have e124 := hFm.old 124 rfl
          conv at e124 => rhs; whnf
          have e125 := hFm.old 125 rfl
          conv at e125 => rhs; whnf
          have e126 := hFm.old 126 rfl
          conv at e126 => rhs; whnf
          have e127 := hFm.old 127 rfl
          conv at e127 => rhs; whnf
          have e128 := hFm.old 128 rfl
          conv at e128 => rhs; whnf
          have e129 := hFm.old 129 rfl
          conv at e129 => rhs; whnf
          have e130 := hFm.old 130 rfl
          conv at e130 => rhs; whnf
          have e131 := hFm.old 131 rfl
          conv at e131 => rhs; whnf
          have e132 := hFm.old 132 rfl
          conv at e132 => rhs; whnf
          have e133 := hFm.old 133 rfl
          conv at e133 => rhs; whnf
          have e134 := hFm.old 134 rfl
          conv at e134 => rhs; whnf
          have e135 := hFm.old 135 rfl
          conv at e135 => rhs; whnf
          have e136 := hFm.old 136 rfl
          conv at e136 => rhs; whnf
          have e137 := hFm.old 137 rfl
          conv at e137 => rhs; whnf
          have e138 := hFm.old 138 rfl
          conv at e138 => rhs; whnf
          have e139 := hFm.old 139 rfl
          conv at e139 => rhs; whnf
          have e140 := hFm.old 140 rfl
          conv at e140 => rhs; whnf
          have e141 := hFm.old 141 rfl
          conv at e141 => rhs; whnf
          have e142 := hFm.old 142 rfl
          conv at e142 => rhs; whnf
          have e143 := hFm.old 143 rfl
          conv at e143 => rhs; whnf
          have e144 := hFm.old 144 rfl
          conv at e144 => rhs; whnf
          have e145 := hFm.old 145 rfl
          conv at e145 => rhs; whnf
          have e146 := hFm.old 146 rfl
          conv at e146 => rhs; whnf
          have e147 := hFm.old 147 rfl
          conv at e147 => rhs; whnf
          have e148 := hFm.old 148 rfl
          conv at e148 => rhs; whnf
          have e149 := hFm.old 149 rfl
          conv at e149 => rhs; whnf
          have e150 := hFm.old 150 rfl
          conv at e150 => rhs; whnf
          have e151 := hFm.old 151 rfl
          conv at e151 => rhs; whnf
          have e152 := hFm.old 152 rfl
          conv at e152 => rhs; whnf
          have e153 := hFm.old 153 rfl
          conv at e153 => rhs; whnf
          have e154 := hFm.old 154 rfl
          conv at e154 => rhs; whnf
          have e155 := hFm.old 155 rfl
          conv at e155 => rhs; whnf
          have e156 := hFm.old 156 rfl
          conv at e156 => rhs; whnf
          have e157 := hFm.old 157 rfl
          conv at e157 => rhs; whnf
          have e158 := hFm.old 158 rfl
          conv at e158 => rhs; whnf
          have e159 := hFm.old 159 rfl
          conv at e159 => rhs; whnf
          have e160 := hFm.old 160 rfl
          conv at e160 => rhs; whnf
          have e161 := hFm.old 161 rfl
          conv at e161 => rhs; whnf
          have e162 := hFm.old 162 rfl
          conv at e162 => rhs; whnf
          have e163 := hFm.old 163 rfl
          conv at e163 => rhs; whnf
          have e164 := hFm.old 164 rfl
          conv at e164 => rhs; whnf
          have e165 := hFm.old 165 rfl
          conv at e165 => rhs; whnf
          have e166 := hFm.old 166 rfl
          conv at e166 => rhs; whnf
          have e167 := hFm.old 167 rfl
          conv at e167 => rhs; whnf
          have e168 := hFm.old 168 rfl
          conv at e168 => rhs; whnf
          have e169 := hFm.old 169 rfl
          conv at e169 => rhs; whnf
          have e170 := hFm.old 170 rfl
          conv at e170 => rhs; whnf
          have e171 := hFm.old 171 rfl
          conv at e171 => rhs; whnf
          have e179 := hFm.old 179 rfl
          conv at e179 => rhs; whnf
          have e180 := hFm.old 180 rfl
          conv at e180 => rhs; whnf
          have e181 := hFm.old 181 rfl
          conv at e181 => rhs; whnf
          have e182 := hFm.old 182 rfl
          conv at e182 => rhs; whnf
          have e183 := hFm.old 183 rfl
          conv at e183 => rhs; whnf
          have e184 := hFm.old 184 rfl
          conv at e184 => rhs; whnf
          have e185 := hFm.old 185 rfl
          conv at e185 => rhs; whnf
          have e186 := hFm.old 186 rfl
          conv at e186 => rhs; whnf
          have e187 := hFm.old 187 rfl
          conv at e187 => rhs; whnf
          have e188 := hFm.old 188 rfl
          conv at e188 => rhs; whnf
          have e189 := hFm.old 189 rfl
          conv at e189 => rhs; whnf
          have e190 := hFm.old 190 rfl
          conv at e190 => rhs; whnf
          have e191 := hFm.old 191 rfl
          conv at e191 => rhs; whnf
          have e192 := hFm.old 192 rfl
          conv at e192 => rhs; whnf
          have e193 := hFm.old 193 rfl
          conv at e193 => rhs; whnf
          have e194 := hFm.old 194 rfl
          conv at e194 => rhs; whnf
          have e195 := hFm.old 195 rfl
          conv at e195 => rhs; whnf
          have e196 := hFm.old 196 rfl
          conv at e196 => rhs; whnf
          have e197 := hFm.old 197 rfl
          conv at e197 => rhs; whnf
          have e198 := hFm.old 198 rfl
          conv at e198 => rhs; whnf
          have e199 := hFm.old 199 rfl
          conv at e199 => rhs; whnf
          have hsz := hFm.size
          have hdf := hFm.defers
          clear hd hFm
          obtain ⟨t, df⟩ := a
          simp only at hsz hdf
          subst hdf
          obtain ⟨x, hx⟩ : ∃ x : Nat → Value, ∀ i, t.getD i undef = x i := ⟨fun i => t.getD i undef, fun _ => rfl⟩
          have h178 := (hx 178).symm.trans e178
          have h0 := (hx 0).symm.trans e0
          have h1 := (hx 1).symm.trans e1
          have h2 := (hx 2).symm.trans e2
          have h3 := (hx 3).symm.trans e3
          have h4 := (hx 4).symm.trans e4
          have h5 := (hx 5).symm.trans e5
          have h6 := (hx 6).symm.trans e6
          have h7 := (hx 7).symm.trans e7
          have h8 := (hx 8).symm.trans e8
          have h9 := (hx 9).symm.trans e9
          have h10 := (hx 10).symm.trans e10
          have h11 := (hx 11).symm.trans e11
          have h12 := (hx 12).symm.trans e12
          have h13 := (hx 13).symm.trans e13
          have h14 := (hx 14).symm.trans e14
          have h15 := (hx 15).symm.trans e15
          have h16 := (hx 16).symm.trans e16
          have h17 := (hx 17).symm.trans e17
          have h18 := (hx 18).symm.trans e18
          have h19 := (hx 19).symm.trans e19
          have h20 := (hx 20).symm.trans e20
          have h21 := (hx 21).symm.trans e21
          have h22 := (hx 22).symm.trans e22
          have h23 := (hx 23).symm.trans e23
          have h24 := (hx 24).symm.trans e24
          have h25 := (hx 25).symm.trans e25
          have h26 := (hx 26).symm.trans e26
          have h27 := (hx 27).symm.trans e27
          have h28 := (hx 28).symm.trans e28
          have h29 := (hx 29).symm.trans e29
          have h30 := (hx 30).symm.trans e30
          have h31 := (hx 31).symm.trans e31
          have h32 := (hx 32).symm.trans e32
          have h33 := (hx 33).symm.trans e33
          have h34 := (hx 34).symm.trans e34
          have h35 := (hx 35).symm.trans e35
          have h36 := (hx 36).symm.trans e36
          have h37 := (hx 37).symm.trans e37
          have h38 := (hx 38).symm.trans e38
          have h39 := (hx 39).symm.trans e39
          have h40 := (hx 40).symm.trans e40
          have h41 := (hx 41).symm.trans e41
          have h42 := (hx 42).symm.trans e42
          have h43 := (hx 43).symm.trans e43
          have h44 := (hx 44).symm.trans e44
          have h45 := (hx 45).symm.trans e45
          have h46 := (hx 46).symm.trans e46
          have h47 := (hx 47).symm.trans e47
          have h48 := (hx 48).symm.trans e48
          have h49 := (hx 49).symm.trans e49
          have h50 := (hx 50).symm.trans e50
          have h51 := (hx 51).symm.trans e51
          have h52 := (hx 52).symm.trans e52
          have h53 := (hx 53).symm.trans e53
          have h54 := (hx 54).symm.trans e54
          have h55 := (hx 55).symm.trans e55
          have h56 := (hx 56).symm.trans e56
          have h57 := (hx 57).symm.trans e57
          have h58 := (hx 58).symm.trans e58
          have h59 := (hx 59).symm.trans e59
          have h60 := (hx 60).symm.trans e60
          have h61 := (hx 61).symm.trans e61
          have h62 := (hx 62).symm.trans e62
          have h63 := (hx 63).symm.trans e63
          have h64 := (hx 64).symm.trans e64
          have h65 := (hx 65).symm.trans e65
          have h66 := (hx 66).symm.trans e66
          have h67 := (hx 67).symm.trans e67
          have h68 := (hx 68).symm.trans e68
          have h69 := (hx 69).symm.trans e69
          have h70 := (hx 70).symm.trans e70
          have h71 := (hx 71).symm.trans e71
          have h72 := (hx 72).symm.trans e72
          have h73 := (hx 73).symm.trans e73
          have h74 := (hx 74).symm.trans e74
          have h75 := (hx 75).symm.trans e75
          have h76 := (hx 76).symm.trans e76
          have h77 := (hx 77).symm.trans e77
          have h78 := (hx 78).symm.trans e78
          have h79 := (hx 79).symm.trans e79
          have h80 := (hx 80).symm.trans e80
          have h81 := (hx 81).symm.trans e81
          have h82 := (hx 82).symm.trans e82
          have h83 := (hx 83).symm.trans e83
          have h84 := (hx 84).symm.trans e84
          have h85 := (hx 85).symm.trans e85
          have h86 := (hx 86).symm.trans e86
          have h87 := (hx 87).symm.trans e87
          have h88 := (hx 88).symm.trans e88
          have h89 := (hx 89).symm.trans e89
          have h90 := (hx 90).symm.trans e90
          have h91 := (hx 91).symm.trans e91
          have h92 := (hx 92).symm.trans e92
          have h93 := (hx 93).symm.trans e93
          have h94 := (hx 94).symm.trans e94
          have h95 := (hx 95).symm.trans e95
          have h96 := (hx 96).symm.trans e96
          have h97 := (hx 97).symm.trans e97
          have h98 := (hx 98).symm.trans e98
          have h99 := (hx 99).symm.trans e99
          have h100 := (hx 100).symm.trans e100
          have h101 := (hx 101).symm.trans e101
          have h102 := (hx 102).symm.trans e102
          have h103 := (hx 103).symm.trans e103
          have h104 := (hx 104).symm.trans e104
          have h105 := (hx 105).symm.trans e105
          have h106 := (hx 106).symm.trans e106
          have h107 := (hx 107).symm.trans e107
          have h108 := (hx 108).symm.trans e108
          have h109 := (hx 109).symm.trans e109
          have h110 := (hx 110).symm.trans e110
          have h111 := (hx 111).symm.trans e111
          have h112 := (hx 112).symm.trans e112
          have h113 := (hx 113).symm.trans e113
          have h114 := (hx 114).symm.trans e114
          have h115 := (hx 115).symm.trans e115
          have h116 := (hx 116).symm.trans e116
          have h117 := (hx 117).symm.trans e117
          have h118 := (hx 118).symm.trans e118
          have h119 := (hx 119).symm.trans e119
          have h120 := (hx 120).symm.trans e120
          have h121 := (hx 121).symm.trans e121
          have h122 := (hx 122).symm.trans e122
          have h123 := (hx 123).symm.trans e123
          have h124 := (hx 124).symm.trans e124
          have h125 := (hx 125).symm.trans e125
          have h126 := (hx 126).symm.trans e126
          have h127 := (hx 127).symm.trans e127
          have h128 := (hx 128).symm.trans e128
          have h129 := (hx 129).symm.trans e129
          have h130 := (hx 130).symm.trans e130
          have h131 := (hx 131).symm.trans e131
          have h132 := (hx 132).symm.trans e132
          have h133 := (hx 133).symm.trans e133
          have h134 := (hx 134).symm.trans e134
          have h135 := (hx 135).symm.trans e135
          have h136 := (hx 136).symm.trans e136
          have h137 := (hx 137).symm.trans e137
          have h138 := (hx 138).symm.trans e138
          have h139 := (hx 139).symm.trans e139
          have h140 := (hx 140).symm.trans e140
          have h141 := (hx 141).symm.trans e141
          have h142 := (hx 142).symm.trans e142
          have h143 := (hx 143).symm.trans e143
          have h144 := (hx 144).symm.trans e144
          have h145 := (hx 145).symm.trans e145
          have h146 := (hx 146).symm.trans e146
          have h147 := (hx 147).symm.trans e147
          have h148 := (hx 148).symm.trans e148
          have h149 := (hx 149).symm.trans e149
          have h150 := (hx 150).symm.trans e150
          have h151 := (hx 151).symm.trans e151
          have h152 := (hx 152).symm.trans e152
          have h153 := (hx 153).symm.trans e153
          have h154 := (hx 154).symm.trans e154
          have h155 := (hx 155).symm.trans e155
          have h156 := (hx 156).symm.trans e156
          have h157 := (hx 157).symm.trans e157
          have h158 := (hx 158).symm.trans e158
          have h159 := (hx 159).symm.trans e159
          have h160 := (hx 160).symm.trans e160
          have h161 := (hx 161).symm.trans e161
          have h162 := (hx 162).symm.trans e162
          have h163 := (hx 163).symm.trans e163
          have h164 := (hx 164).symm.trans e164
          have h165 := (hx 165).symm.trans e165
          have h166 := (hx 166).symm.trans e166
          have h167 := (hx 167).symm.trans e167
          have h168 := (hx 168).symm.trans e168
          have h169 := (hx 169).symm.trans e169
          have h170 := (hx 170).symm.trans e170
          have h171 := (hx 171).symm.trans e171
          have h179 := (hx 179).symm.trans e179
          have h180 := (hx 180).symm.trans e180
          have h181 := (hx 181).symm.trans e181
          have h182 := (hx 182).symm.trans e182
          have h183 := (hx 183).symm.trans e183
          have h184 := (hx 184).symm.trans e184
          have h185 := (hx 185).symm.trans e185
          have h186 := (hx 186).symm.trans e186
          have h187 := (hx 187).symm.trans e187
          have h188 := (hx 188).symm.trans e188
          have h189 := (hx 189).symm.trans e189
          have h190 := (hx 190).symm.trans e190
          have h191 := (hx 191).symm.trans e191
          have h192 := (hx 192).symm.trans e192
          have h193 := (hx 193).symm.trans e193
          have h194 := (hx 194).symm.trans e194
          have h195 := (hx 195).symm.trans e195
          have h196 := (hx 196).symm.trans e196
          have h197 := (hx 197).symm.trans e197
          have h198 := (hx 198).symm.trans e198
          have h199 := (hx 199).symm.trans e199
          have ht' : t = #[x 0, x 1, x 2, x 3, x 4, x 5, x 6, x 7, x 8, x 9, x 10, x 11, x 12, x 13, x 14, x 15, x 16, x 17, x 18, x 19, x 20, x 21, x 22, x 23, x 24, x 25, x 26, x 27, x 28, x 29, x 30, x 31, x 32, x 33, x 34, x 35, x 36, x 37, x 38, x 39, x 40, x 41, x 42, x 43, x 44, x 45, x 46, x 47, x 48, x 49, x 50, x 51, x 52, x 53, x 54, x 55, x 56, x 57, x 58, x 59, x 60, x 61, x 62, x 63, x 64, x 65, x 66, x 67, x 68, x 69, x 70, x 71, x 72, x 73, x 74, x 75, x 76, x 77, x 78, x 79, x 80, x 81, x 82, x 83, x 84, x 85, x 86, x 87, x 88, x 89, x 90, x 91, x 92, x 93, x 94, x 95, x 96, x 97, x 98, x 99, x 100, x 101, x 102, x 103, x 104, x 105, x 106, x 107, x 108, x 109, x 110, x 111, x 112, x 113, x 114, x 115, x 116, x 117, x 118, x 119, x 120, x 121, x 122, x 123, x 124, x 125, x 126, x 127, x 128, x 129, x 130, x 131, x 132, x 133, x 134, x 135, x 136, x 137, x 138, x 139, x 140, x 141, x 142, x 143, x 144, x 145, x 146, x 147, x 148, x 149, x 150, x 151, x 152, x 153, x 154, x 155, x 156, x 157, x 158, x 159, x 160, x 161, x 162, x 163, x 164, x 165, x 166, x 167, x 168, x 169, x 170, x 171, x 172, x 173, x 174, x 175, x 176, x 177, x 178, x 179, x 180, x 181, x 182, x 183, x 184, x 185, x 186, x 187, x 188, x 189, x 190, x 191, x 192, x 193, x 194, x 195, x 196, x 197, x 198, x 199] := frame_lit t 200 hsz x hx
          clear hx hsz hz e178 e0 e1 e2 e3 e4 e5 e6 e7 e8 e9 e10 e11 e12 e13 e14 e15 e16 e17 e18 e19 e20 e21 e22 e23 e24 e25 e26 e27 e28 e29 e30 e31 e32 e33 e34 e35 e36 e37 e38 e39 e40 e41 e42 e43 e44 e45 e46 e47 e48 e49 e50 e51 e52 e53 e54 e55 e56 e57 e58 e59 e60 e61 e62 e63 e64 e65 e66 e67 e68 e69 e70 e71 e72 e73 e74 e75 e76 e77 e78 e79 e80 e81 e82 e83 e84 e85 e86 e87 e88 e89 e90 e91 e92 e93 e94 e95 e96 e97 e98 e99 e100 e101 e102 e103 e104 e105 e106 e107 e108 e109 e110 e111 e112 e113 e114 e115 e116 e117 e118 e119 e120 e121 e122 e123 e124 e125 e126 e127 e128 e129 e130 e131 e132 e133 e134 e135 e136 e137 e138 e139 e140 e141 e142 e143 e144 e145 e146 e147 e148 e149 e150 e151 e152 e153 e154 e155 e156 e157 e158 e159 e160 e161 e162 e163 e164 e165 e166 e167 e168 e169 e170 e171 e179 e180 e181 e182 e183 e184 e185 e186 e187 e188 e189 e190 e191 e192 e193 e194 e195 e196 e197 e198 e199
          subst ht'
          dsimp only
          rw [h178, h0, h1, h2, h3, h4, h5, h6, h7, h8, h9, h10, h11, h12, h13, h14, h15, h16, h17, h18, h19, h20, h21, h22, h23, h24, h25, h26, h27, h28, h29, h30, h31, h32, h33, h34, h35, h36, h37, h38, h39, h40, h41, h42, h43, h44, h45, h46, h47, h48, h49, h50, h51, h52, h53, h54, h55, h56, h57, h58, h59, h60, h61, h62, h63, h64, h65, h66, h67, h68, h69, h70, h71, h72, h73, h74, h75, h76, h77, h78, h79, h80, h81, h82, h83, h84, h85, h86, h87, h88, h89, h90, h91, h92, h93, h94, h95, h96, h97, h98, h99, h100, h101, h102, h103, h104, h105, h106, h107, h108, h109, h110, h111, h112, h113, h114, h115, h116, h117, h118, h119, h120, h121, h122, h123, h124, h125, h126, h127, h128, h129, h130, h131, h132, h133, h134, h135, h136, h137, h138, h139, h140, h141, h142, h143, h144, h145, h146, h147, h148, h149, h150, h151, h152, h153, h154, h155, h156, h157, h158, h159, h160, h161, h162, h163, h164, h165, h166, h167, h168, h169, h170, h171, h179, h180, h181, h182, h183, h184, h185, h186, h187, h188, h189, h190, h191, h192, h193, h194, h195, h196, h197, h198, h199]
          clear h178 h0 h1 h2 h3 h4 h5 h6 h7 h8 h9 h10 h11 h12 h13 h14 h15 h16 h17 h18 h19 h20 h21 h22 h23 h24 h25 h26 h27 h28 h29 h30 h31 h32 h33 h34 h35 h36 h37 h38 h39 h40 h41 h42 h43 h44 h45 h46 h47 h48 h49 h50 h51 h52 h53 h54 h55 h56 h57 h58 h59 h60 h61 h62 h63 h64 h65 h66 h67 h68 h69 h70 h71 h72 h73 h74 h75 h76 h77 h78 h79 h80 h81 h82 h83 h84 h85 h86 h87 h88 h89 h90 h91 h92 h93 h94 h95 h96 h97 h98 h99 h100 h101 h102 h103 h104 h105 h106 h107 h108 h109 h110 h111 h112 h113 h114 h115 h116 h117 h118 h119 h120 h121 h122 h123 h124 h125 h126 h127 h128 h129 h130 h131 h132 h133 h134 h135 h136 h137 h138 h139 h140 h141 h142 h143 h144 h145 h146 h147 h148 h149 h150 h151 h152 h153 h154 h155 h156 h157 h158 h159 h160 h161 h162 h163 h164 h165 h166 h167 h168 h169 h170 h171 h179 h180 h181 h182 h183 h184 h185 h186 h187 h188 h189 h190 h191 h192 h193 h194 h195 h196 h197 h198 h199
          have hb := from_drew hS
          replace hB := hB.trans (hb.mono hB.size)
          replace hY := hY.later hb
          replace hX := hX.later hb
          replace hI := hI.later hb
          replace hry := hry.later hb
          clear hS hb
          go_wp2
          go_roundw
          case rel => exact ⟨k + 1, by go_num, by omega, hB, hY, hX, hI, hry⟩
          case measure => simp [intOf]; omega
        · have d3 : decide (k < yF.E.length) = false := by simpa using hlt
          have d3' : decide ((k : Int) < (yF.E.length : Int)) = false := by simp; omega
          go_wp2
          go_ret
          exact ⟨rfl, hB⟩
    · have b5 : (xf.K == 3) = false := by simpa using h3
      have b6 : (xf.K != 3) = true := by simpa using h3
      obtain ⟨hR, hP⟩ := hyB h3
      have b7 : (yF.R != wireI d 5) = false := by simp [hR]
      have b8 : (yF.P.K == 1) = true := by simp [hP]
      have b9 : (yF.P.V == 0) = true := by simp [hP]
      clear h3 hR hP hyA hyB hyK hyS
      generalize wireI d 5 = Rw at *
      go_wp2_with fail
      refine (HWh.out _).mono ?_
      rintro e wl ⟨rfl, rfl⟩
      have qD := hD.at
      unfold confBox at qD
      have qX := hX.at
      unfold frBox at qX
      go_wp2_with fail
      refine (HRd.out _).mono ?_
      rintro e w4 ⟨ra, rc, rfl, hry, hfy, hb⟩
      replace hB := hB.trans (hb.mono hB.size)
      replace hD := hD.later hb
      replace hX := hX.later hb
      replace hrx := hrx.later hb
      clear hb qD qX hfy HRd
      have hY : Blk (w4.alloc (.cells #[.int .i64 yF.K, .int .i64 yF.R, .int .i64 yF.S, .int .i64 yF.P.K, .int .i64 yF.P.V, .slice ra yF.E.length rc] 32)) w4.heap.size 32 (frBox yF ra rc) := Blk.new w4 _ _
      replace hB := hB.alloc hB.size (.cells #[.int .i64 yF.K, .int .i64 yF.R, .int .i64 yF.S, .int .i64 yF.P.K, .int .i64 yF.P.V, .slice ra yF.E.length rc] 32)
      replace hD := hD.alloc (.cells #[.int .i64 yF.K, .int .i64 yF.R, .int .i64 yF.S, .int .i64 yF.P.K, .int .i64 yF.P.V, .slice ra yF.E.length rc] 32)
      replace hX := hX.alloc (.cells #[.int .i64 yF.K, .int .i64 yF.R, .int .i64 yF.S, .int .i64 yF.P.K, .int .i64 yF.P.V, .slice ra yF.E.length rc] 32)
      replace hrx := hrx.alloc (.cells #[.int .i64 yF.K, .int .i64 yF.R, .int .i64 yF.S, .int .i64 yF.P.K, .int .i64 yF.P.V, .slice ra yF.E.length rc] 32)
      replace hry := hry.alloc (.cells #[.int .i64 yF.K, .int .i64 yF.R, .int .i64 yF.S, .int .i64 yF.P.K, .int .i64 yF.P.V, .slice ra yF.E.length rc] 32)
      go_upto_region 20 with fail
      generalize w4.alloc (.cells #[.int .i64 yF.K, .int .i64 yF.R, .int .i64 yF.S, .int .i64 yF.P.K, .int .i64 yF.P.V, .slice ra yF.E.length rc] 32) = w5 at *
      generalize w4.heap.size = yb at *
      have qD := hD.at
      unfold confBox at qD
      have qX := hX.at
      unfold frBox at qX
      have qY := hY.at
      unfold frBox at qY
      go_upto_region 22 with fail
      clear qD qX qY
      refine region_slots [some 121, some 122, some 123, some 124, some 125, some 126, some 127, some 128, some 129, some 130, some 131, some 132, some 133, some 134, some 135, some 136, some 137, some 138, some 139, some 140, some 141, some 142] [none, none, none, none, none, none, none, none, none, none, none, none, none, none, none, none, none, none, none, none, none, none] 200 22 rfl (by kernel_rfl) (by kernel_rfl) rfl rfl ?_
      apply step_fix
      · intro a W Zs hS hFm hz hd
        have h14 := hFm.old 14 rfl
        conv at h14 => rhs; whnf
        replace h14 := ev_get hFm.size h14
        refine .inl ⟨wanted_none rfl _, fun K hK => ?_⟩
        have HK := Lib.hid hK
        clear hd hFm hK
        go_simp
        exact HK.out _ _ rfl (Below.refl _ _)
      simp only [List.nil_append, List.cons_append]
      apply step_fix
      · intro a W Zs hS hFm hz hd
        have h121 := ev_get hFm.size (hd 0 121 rfl rfl)
        have hq := (hX.drew1.later hS).at
        unfold frBox at hq
        refine .inl ⟨wanted_none rfl _, fun K hK => ?_⟩
        have HK := Lib.hid hK
        clear hd hFm hK
        go_simp
        exact HK.out _ _ rfl (Below.refl _ _)
      simp only [List.nil_append, List.cons_append]
      apply step_fix
      · intro a W Zs hS hFm hz hd
        have h122 := ev_get hFm.size (hd 1 122 rfl rfl)
        refine .inl ⟨wanted_none rfl _, fun K hK => ?_⟩
        have HK := Lib.hid hK
        clear hd hFm hK
        go_simp
        exact HK.out _ _ rfl (Below.refl _ _)
      simp only [List.nil_append, List.cons_append]
      apply step_fix
      · intro a W Zs hS hFm hz hd
        have h123 := ev_get hFm.size (hd 2 123 rfl rfl)
        refine .inl ⟨wanted_none rfl _, fun K hK => ?_⟩
        have HK := Lib.hid hK
        clear hd hFm hK
        go_simp
        exact HK.out _ _ rfl (Below.refl _ _)
      simp only [List.nil_append, List.cons_append]
      apply step_fix
      · intro a W Zs hS hFm hz hd
        exact .inr ⟨wanted_not rfl rfl (hd 3 124 rfl rfl), rfl⟩
      simp only [List.nil_append, List.cons_append]
      apply step_fix
      · intro a W Zs hS hFm hz hd
        exact .inr ⟨wanted_not rfl rfl (hd 3 124 rfl rfl), rfl⟩
      simp only [List.nil_append, List.cons_append]
      apply step_fix
      · intro a W Zs hS hFm hz hd
        exact .inr ⟨wanted_not rfl rfl (hd 3 124 rfl rfl), rfl⟩
      simp only [List.nil_append, List.cons_append]
      apply step_fix
      · intro a W Zs hS hFm hz hd
        exact .inr ⟨wanted_not rfl rfl (hd 3 124 rfl rfl), rfl⟩
      simp only [List.nil_append, List.cons_append]
      apply step_fix
      · intro a W Zs hS hFm hz hd
        exact .inr ⟨wanted_not rfl rfl (hd 3 124 rfl rfl), rfl⟩
      simp only [List.nil_append, List.cons_append]
      apply step_fix
      · intro a W Zs hS hFm hz hd
        have h124 := ev_get hFm.size (hd 3 124 rfl rfl)
        have h129 := ev_get hFm.size (hd 8 129 rfl rfl)
        refine .inl ⟨wanted_none rfl _, fun K hK => ?_⟩
        have HK := Lib.hid hK
        clear hd hFm hK
        go_simp
        exact HK.out _ _ rfl (Below.refl _ _)
      simp only [List.nil_append, List.cons_append]
      apply step_fix
      · intro a W Zs hS hFm hz hd
        have h130 := ev_get hFm.size (hd 9 130 rfl rfl)
        refine .inl ⟨wanted_none rfl _, fun K hK => ?_⟩
        have HK := Lib.hid hK
        clear hd hFm hK
        go_simp
        exact HK.out _ _ rfl (Below.refl _ _)
      simp only [List.nil_append, List.cons_append]
      apply step_fix
      · intro a W Zs hS hFm hz hd
        have h14 := hFm.old 14 rfl
        conv at h14 => rhs; whnf
        replace h14 := ev_get hFm.size h14
        refine .inl ⟨wanted_at rfl rfl (hd 10 131 rfl rfl), fun K hK => ?_⟩
        have HK := Lib.hid hK
        clear hd hFm hK
        go_simp
        exact HK.out _ _ rfl (Below.refl _ _)
      simp only [List.nil_append, List.cons_append]
      apply step_fix
      · intro a W Zs hS hFm hz hd
        have h132 := ev_get hFm.size (hd 11 132 rfl rfl)
        have hq := (hX.drew1.later hS).at
        unfold frBox at hq
        refine .inl ⟨wanted_at rfl rfl (hd 10 131 rfl rfl), fun K hK => ?_⟩
        have HK := Lib.hid hK
        clear hd hFm hK
        go_simp
        exact HK.out _ _ rfl (Below.refl _ _)
      simp only [List.nil_append, List.cons_append]
      apply step_fix
      · intro a W Zs hS hFm hz hd
        have h133 := ev_get hFm.size (hd 12 133 rfl rfl)
        refine .inl ⟨wanted_at rfl rfl (hd 10 131 rfl rfl), fun K hK => ?_⟩
        have HK := Lib.hid hK
        clear hd hFm hK
        go_simp
        exact HK.out _ _ rfl (Below.refl _ _)
      simp only [List.nil_append, List.cons_append]
      apply step_fix
      · intro a W Zs hS hFm hz hd
        have h134 := ev_get hFm.size (hd 13 134 rfl rfl)
        refine .inl ⟨wanted_at rfl rfl (hd 10 131 rfl rfl), fun K hK => ?_⟩
        have HK := Lib.hid hK
        clear hd hFm hK
        go_simp
        exact HK.out _ _ rfl (Below.refl _ _)
      simp only [List.nil_append, List.cons_append]
      apply step_fix
      · intro a W Zs hS hFm hz hd
        have h18 := hFm.old 18 rfl
        conv at h18 => rhs; whnf
        replace h18 := ev_get hFm.size h18
        refine .inl ⟨wanted_at rfl rfl (hd 14 135 rfl rfl), fun K hK => ?_⟩
        have HK := Lib.hid hK
        clear hd hFm hK
        go_simp
        exact HK.out _ _ rfl (Below.refl _ _)
      simp only [List.nil_append, List.cons_append]
      apply step_fix
      · intro a W Zs hS hFm hz hd
        have h136 := ev_get hFm.size (hd 15 136 rfl rfl)
        have hq := (hY.drew1.later hS).at
        unfold frBox at hq
        refine .inl ⟨wanted_at rfl rfl (hd 14 135 rfl rfl), fun K hK => ?_⟩
        have HK := Lib.hid hK
        clear hd hFm hK
        go_simp
        exact HK.out _ _ rfl (Below.refl _ _)
      simp only [List.nil_append, List.cons_append]
      apply step_fix
      · intro a W Zs hS hFm hz hd
        have h13 := hFm.old 13 rfl
        conv at h13 => rhs; whnf
        replace h13 := ev_get hFm.size h13
        have hq := (hD.drew1.later hS).at
        unfold confBox at hq
        refine .inl ⟨wanted_at rfl rfl (hd 14 135 rfl rfl), fun K hK => ?_⟩
        have HK := Lib.hid hK
        clear hd hFm hK
        go_simp
        exact HK.out _ _ rfl (Below.refl _ _)
      simp only [List.nil_append, List.cons_append]
      apply step_fix
      · intro a W Zs hS hFm hz hd
        have h138 := ev_get hFm.size (hd 17 138 rfl rfl)
        refine .inl ⟨wanted_at rfl rfl (hd 14 135 rfl rfl), fun K hK => ?_⟩
        have HK := Lib.hid hK
        clear hd hFm hK
        go_simp
        refine (HWi.out _).mono ?_
        rintro e W' ⟨rfl, hb⟩
        exact HK.out _ _ rfl hb
      simp only [List.nil_append, List.cons_append]
      apply step_fix
      · intro a W Zs hS hFm hz hd
        have h137 := ev_get hFm.size (hd 16 137 rfl rfl)
        have h139 := ev_get hFm.size (hd 18 139 rfl rfl)
        refine .inl ⟨wanted_at rfl rfl (hd 14 135 rfl rfl), fun K hK => ?_⟩
        have HK := Lib.hid hK
        clear hd hFm hK
        go_simp
        exact HK.out _ _ rfl (Below.refl _ _)
      simp only [List.nil_append, List.cons_append]
      apply step_fix
      · intro a W Zs hS hFm hz hd
        have h135 := ev_get hFm.size (hd 14 135 rfl rfl)
        have h140 := ev_get hFm.size (hd 19 140 rfl rfl)
        refine .inl ⟨wanted_at rfl rfl (hd 10 131 rfl rfl), fun K hK => ?_⟩
        have HK := Lib.hid hK
        clear hd hFm hK
        go_simp
        exact HK.out _ _ rfl (Below.refl _ _)
      simp only [List.nil_append, List.cons_append]
      apply step_fix
      · intro a W Zs hS hFm hz hd
        have h131 := ev_get hFm.size (hd 10 131 rfl rfl)
        have h141 := ev_get hFm.size (hd 20 141 rfl rfl)
        refine .inl ⟨wanted_none rfl _, fun K hK => ?_⟩
        have HK := Lib.hid hK
        clear hd hFm hK
        go_simp
        exact HK.out _ _ rfl (Below.refl _ _)
      simp only [List.nil_append, List.cons_append]
      intro a w6 Zs hS hFm hz hd
      have e142 := hd 21 142 (by decide) rfl
      have e0 := hFm.old 0 rfl
      conv at e0 => rhs; whnf
      have e1 := hFm.old 1 rfl
      conv at e1 => rhs; whnf
      have e2 := hFm.old 2 rfl
      conv at e2 => rhs; whnf
      have e3 := hFm.old 3 rfl
      conv at e3 => rhs; whnf
      have e4 := hFm.old 4 rfl
      conv at e4 => rhs; whnf
      have e5 := hFm.old 5 rfl
      conv at e5 => rhs; whnf
      have e6 := hFm.old 6 rfl
      conv at e6 => rhs; whnf
      have e7 := hFm.old 7 rfl
      conv at e7 => rhs; whnf
      have e8 := hFm.old 8 rfl
      conv at e8 => rhs; whnf
      have e9 := hFm.old 9 rfl
      conv at e9 => rhs; whnf
      have e10 := hFm.old 10 rfl
      conv at e10 => rhs; whnf
      have e11 := hFm.old 11 rfl
      conv at e11 => rhs; whnf
      have e12 := hFm.old 12 rfl
      conv at e12 => rhs; whnf
      have e13 := hFm.old 13 rfl
      conv at e13 => rhs; whnf
      have e14 := hFm.old 14 rfl
      conv at e14 => rhs; whnf
      have e15 := hFm.old 15 rfl
      conv at e15 => rhs; whnf
      have e16 := hFm.old 16 rfl
      conv at e16 => rhs; whnf
      have e17 := hFm.old 17 rfl
      conv at e17 => rhs; whnf
      have e18 := hFm.old 18 rfl
      conv at e18 => rhs; whnf
      have e19 := hFm.old 19 rfl
      conv at e19 => rhs; whnf
      have e20 := hFm.old 20 rfl
      conv at e20 => rhs; whnf
      have e21 := hFm.old 21 rfl
      conv at e21 => rhs; whnf
      have e22 := hFm.old 22 rfl
      conv at e22 => rhs; whnf
      have e23 := hFm.old 23 rfl
      conv at e23 => rhs; whnf
      have e24 := hFm.old 24 rfl
      conv at e24 => rhs; whnf
      have e25 := hFm.old 25 rfl
      conv at e25 => rhs; whnf
      have e26 := hFm.old 26 rfl
      conv at e26 => rhs; whnf
      have e27 := hFm.old 27 rfl
      conv at e27 => rhs; whnf
      have e28 := hFm.old 28 rfl
      conv at e28 => rhs; whnf
      have e29 := hFm.old 29 rfl
      conv at e29 => rhs; whnf
      have e30 := hFm.old 30 rfl
      conv at e30 => rhs; whnf
      have e31 := hFm.old 31 rfl
      conv at e31 => rhs; whnf
      have e32 := hFm.old 32 rfl
      conv at e32 => rhs; whnf
      have e33 := hFm.old 33 rfl
      conv at e33 => rhs; whnf
      have e34 := hFm.old 34 rfl
      conv at e34 => rhs; whnf
      have e35 := hFm.old 35 rfl
      conv at e35 => rhs; whnf
      have e36 := hFm.old 36 rfl
      conv at e36 => rhs; whnf
      have e37 := hFm.old 37 rfl
      conv at e37 => rhs; whnf
      have e38 := hFm.old 38 rfl
      conv at e38 => rhs; whnf
      have e39 := hFm.old 39 rfl
      conv at e39 => rhs; whnf
      have e40 := hFm.old 40 rfl
      conv at e40 => rhs; whnf
      have e41 := hFm.old 41 rfl
      conv at e41 => rhs; whnf
      have e42 := hFm.old 42 rfl
      conv at e42 => rhs; whnf
      have e43 := hFm.old 43 rfl
      conv at e43 => rhs; whnf
      have e44 := hFm.old 44 rfl
      conv at e44 => rhs; whnf
      have e45 := hFm.old 45 rfl
      conv at e45 => rhs; whnf
      have e46 := hFm.old 46 rfl
      conv at e46 => rhs; whnf
      have e47 := hFm.old 47 rfl
      conv at e47 => rhs; whnf
      have e48 := hFm.old 48 rfl
      conv at e48 => rhs; whnf
      have e49 := hFm.old 49 rfl
      conv at e49 => rhs; whnf
      have e50 := hFm.old 50 rfl
      conv at e50 => rhs; whnf
      have e51 := hFm.old 51 rfl
      conv at e51 => rhs; whnf
      have e52 := hFm.old 52 rfl
      conv at e52 => rhs; whnf
      have e53 := hFm.old 53 rfl
      conv at e53 => rhs; whnf
      have e54 := hFm.old 54 rfl
      conv at e54 => rhs; whnf
      have e55 := hFm.old 55 rfl
      conv at e55 => rhs; whnf
      have e56 := hFm.old 56 rfl
      conv at e56 => rhs; whnf
      have e57 := hFm.old 57 rfl
      conv at e57 => rhs; whnf
      have e58 := hFm.old 58 rfl
      conv at e58 => rhs; whnf
      have e59 := hFm.old 59 rfl
      conv at e59 => rhs; whnf
      have e60 := hFm.old 60 rfl
      conv at e60 => rhs; whnf
      have e61 := hFm.old 61 rfl
      conv at e61 => rhs; whnf
      have e62 := hFm.old 62 rfl
      conv at e62 => rhs; whnf
      have e63 := hFm.old 63 rfl
      conv at e63 => rhs; whnf
      have e64 := hFm.old 64 rfl
      conv at e64 => rhs; whnf
      have e65 := hFm.old 65 rfl
      conv at e65 => rhs; whnf
      have e66 := hFm.old 66 rfl
      conv at e66 => rhs; whnf
      have e67 := hFm.old 67 rfl
      conv at e67 => rhs; whnf
      have e68 := hFm.old 68 rfl
      conv at e68 => rhs; whnf
      have e69 := hFm.old 69 rfl
      conv at e69 => rhs; whnf
      have e70 := hFm.old 70 rfl
      conv at e70 => rhs; whnf
      have e71 := hFm.old 71 rfl
      conv at e71 => rhs; whnf
      have e72 := hFm.old 72 rfl
      conv at e72 => rhs; whnf
      have e73 := hFm.old 73 rfl
      conv at e73 => rhs; whnf
      have e74 := hFm.old 74 rfl
      conv at e74 => rhs; whnf
      have e75 := hFm.old 75 rfl
      conv at e75 => rhs; whnf
      have e76 := hFm.old 76 rfl
      conv at e76 => rhs; whnf
      have e77 := hFm.old 77 rfl
      conv at e77 => rhs; whnf
      have e78 := hFm.old 78 rfl
      conv at e78 => rhs; whnf
      have e79 := hFm.old 79 rfl
      conv at e79 => rhs; whnf
      have e80 := hFm.old 80 rfl
      conv at e80 => rhs; whnf
      have e81 := hFm.old 81 rfl
      conv at e81 => rhs; whnf
      have e82 := hFm.old 82 rfl
      conv at e82 => rhs; whnf
      have e83 := hFm.old 83 rfl
      conv at e83 => rhs; whnf
      have e84 := hFm.old 84 rfl
      conv at e84 => rhs; whnf
      have e85 := hFm.old 85 rfl
      conv at e85 => rhs; whnf
      have e86 := hFm.old 86 rfl
      conv at e86 => rhs; whnf
      have e87 := hFm.old 87 rfl
      conv at e87 => rhs; whnf
      have e88 := hFm.old 88 rfl
      conv at e88 => rhs; whnf
      have e89 := hFm.old 89 rfl
      conv at e89 => rhs; whnf
      have e90 := hFm.old 90 rfl
      conv at e90 => rhs; whnf
      have e91 := hFm.old 91 rfl
      conv at e91 => rhs; whnf
      have e92 := hFm.old 92 rfl
      conv at e92 => rhs; whnf
      have e93 := hFm.old 93 rfl
      conv at e93 => rhs; whnf
      have e94 := hFm.old 94 rfl
      conv at e94 => rhs; whnf
      have e95 := hFm.old 95 rfl
      conv at e95 => rhs; whnf
      have e96 := hFm.old 96 rfl
      conv at e96 => rhs; whnf
      have e97 := hFm.old 97 rfl
      conv at e97 => rhs; whnf
      have e98 := hFm.old 98 rfl
      conv at e98 => rhs; whnf
      have e99 := hFm.old 99 rfl
      conv at e99 => rhs; whnf
      have e100 := hFm.old 100 rfl
      conv at e100 => rhs; whnf
      have e101 := hFm.old 101 rfl
      conv at e101 => rhs; whnf
      have e102 := hFm.old 102 rfl
      conv at e102 => rhs; whnf
      have e103 := hFm.old 103 rfl
      conv at e103 => rhs; whnf
      have e104 := hFm.old 104 rfl
      conv at e104 => rhs; whnf
      have e105 := hFm.old 105 rfl
      conv at e105 => rhs; whnf
      have e106 := hFm.old 106 rfl
      conv at e106 => rhs; whnf
      have e107 := hFm.old 107 rfl
      conv at e107 => rhs; whnf
      have e108 := hFm.old 108 rfl
      conv at e108 => rhs; whnf
      have e109 := hFm.old 109 rfl
      conv at e109 => rhs; whnf
      have e110 := hFm.old 110 rfl
      conv at e110 => rhs; whnf
      have e111 := hFm.old 111 rfl
      conv at e111 => rhs; whnf
      have e112 := hFm.old 112 rfl
      conv at e112 => rhs; whnf
      have e113 := hFm.old 113 rfl
      conv at e113 => rhs; whnf
      have e114 := hFm.old 114 rfl
      conv at e114 => rhs; whnf
      have e115 := hFm.old 115 rfl
      conv at e115 => rhs; whnf
      have e116 := hFm.old 116 rfl
      conv at e116 => rhs; whnf
      have e117 := hFm.old 117 rfl
      conv at e117 => rhs; whnf
      have e118 := hFm.old 118 rfl
      conv at e118 => rhs; whnf
      have e119 := hFm.old 119 rfl
      conv at e119 => rhs; whnf
      have e120 := hFm.old 120 rfl
      conv at e120 => rhs; whnf
      have e143 := hFm.old 143 rfl
      conv at e143 => rhs; whnf
      have e144 := hFm.old 144 rfl
      conv at e144 => rhs; whnf
      have e145 := hFm.old 145 rfl
      conv at e145 => rhs; whnf
      have e146 := hFm.old 146 rfl
      conv at e146 => rhs; whnf
      have e147 := hFm.old 147 rfl
      conv at e147 => rhs; whnf
      have e148 := hFm.old 148 rfl
      conv at e148 => rhs; whnf
      have e149 := hFm.old 149 rfl
      conv at e149 => rhs; whnf
      have e150 := hFm.old 150 rfl
      conv at e150 => rhs; whnf
      have e151 := hFm.old 151 rfl
      conv at e151 => rhs; whnf
      have e152 := hFm.old 152 rfl
      conv at e152 => rhs; whnf
      have e153 := hFm.old 153 rfl
      conv at e153 => rhs; whnf
      have e154 := hFm.old 154 rfl
      conv at e154 => rhs; whnf
      have e155 := hFm.old 155 rfl
      conv at e155 => rhs; whnf
      have e156 := hFm.old 156 rfl
      conv at e156 => rhs; whnf
      have e157 := hFm.old 157 rfl
      conv at e157 => rhs; whnf
      have e158 := hFm.old 158 rfl
      conv at e158 => rhs; whnf
      have e159 := hFm.old 159 rfl
      conv at e159 => rhs; whnf
      have e160 := hFm.old 160 rfl
      conv at e160 => rhs; whnf
      have e161 := hFm.old 161 rfl
      conv at e161 => rhs; whnf
      have e162 := hFm.old 162 rfl
      conv at e162 => rhs; whnf
      have e163 := hFm.old 163 rfl
      conv at e163 => rhs; whnf
      have e164 := hFm.old 164 rfl
      conv at e164 => rhs; whnf
      have e165 := hFm.old 165 rfl
      conv at e165 => rhs; whnf
      have e166 := hFm.old 166 rfl
      conv at e166 => rhs; whnf
      have e167 := hFm.old 167 rfl
      conv at e167 => rhs; whnf
      have e168 := hFm.old 168 rfl
      conv at e168 => rhs; whnf
      have e169 := hFm.old 169 rfl
      conv at e169 => rhs; whnf
      have e170 := hFm.old 170 rfl
      conv at e170 => rhs; whnf
      have e171 := hFm.old 171 rfl
      conv at e171 => rhs; whnf
      have e172 := hFm.old 172 rfl
      conv at e172 => rhs; whnf
      have e173 := hFm.old 173 rfl
      conv at e173 => rhs; whnf
      have e174 := hFm.old 174 rfl
      conv at e174 => rhs; whnf
      have e175 := hFm.old 175 rfl
      conv at e175 => rhs; whnf
      have e176 := hFm.old 176 rfl
      conv at e176 => rhs; whnf
      have e177 := hFm.old 177 rfl
      conv at e177 => rhs; whnf
      have e178 := hFm.old 178 rfl
      conv at e178 => rhs; whnf
      have e179 := hFm.old 179 rfl
      conv at e179 => rhs; whnf
      have e180 := hFm.old 180 rfl
      conv at e180 => rhs; whnf
      have e181 := hFm.old 181 rfl
      conv at e181 => rhs; whnf
      have e182 := hFm.old 182 rfl
      conv at e182 => rhs; whnf
      have e183 := hFm.old 183 rfl
      conv at e183 => rhs; whnf
      have e184 := hFm.old 184 rfl
      conv at e184 => rhs; whnf
      have e185 := hFm.old 185 rfl
      conv at e185 => rhs; whnf
      have e186 := hFm.old 186 rfl
      conv at e186 => rhs; whnf
      have e187 := hFm.old 187 rfl
      conv at e187 => rhs; whnf
      have e188 := hFm.old 188 rfl
      conv at e188 => rhs; whnf
      have e189 := hFm.old 189 rfl
      conv at e189 => rhs; whnf
      have e190 := hFm.old 190 rfl
      conv at e190 => rhs; whnf
      have e191 := hFm.old 191 rfl
      conv at e191 => rhs; whnf
      have e192 := hFm.old 192 rfl
      conv at e192 => rhs; whnf
      have e193 := hFm.old 193 rfl
      conv at e193 => rhs; whnf
      have e194 := hFm.old 194 rfl
      conv at e194 => rhs; whnf
      have e195 := hFm.old 195 rfl
      conv at e195 => rhs; whnf
      have e196 := hFm.old 196 rfl
      conv at e196 => rhs; whnf
      have e197 := hFm.old 197 rfl
      conv at e197 => rhs; whnf
      have e198 := hFm.old 198 rfl
      conv at e198 => rhs; whnf
      have e199 := hFm.old 199 rfl
      conv at e199 => rhs; whnf
      have hsz := hFm.size
      have hdf := hFm.defers
      clear hd hFm
      obtain ⟨t, df⟩ := a
      simp only at hsz hdf
      subst hdf
      obtain ⟨x, hx⟩ : ∃ x : Nat → Value, ∀ i, t.getD i undef = x i := ⟨fun i => t.getD i undef, fun _ => rfl⟩
      have h142 := (hx 142).symm.trans e142
      have h0 := (hx 0).symm.trans e0
      have h1 := (hx 1).symm.trans e1
      have h2 := (hx 2).symm.trans e2
      have h3 := (hx 3).symm.trans e3
      have h4 := (hx 4).symm.trans e4
      have h5 := (hx 5).symm.trans e5
      have h6 := (hx 6).symm.trans e6
      have h7 := (hx 7).symm.trans e7
      have h8 := (hx 8).symm.trans e8
      have h9 := (hx 9).symm.trans e9
      have h10 := (hx 10).symm.trans e10
      have h11 := (hx 11).symm.trans e11
      have h12 := (hx 12).symm.trans e12
      have h13 := (hx 13).symm.trans e13
      have h14 := (hx 14).symm.trans e14
      have h15 := (hx 15).symm.trans e15
      have h16 := (hx 16).symm.trans e16
      have h17 := (hx 17).symm.trans e17
      have h18 := (hx 18).symm.trans e18
      have h19 := (hx 19).symm.trans e19
      have h20 := (hx 20).symm.trans e20
      have h21 := (hx 21).symm.trans e21
      have h22 := (hx 22).symm.trans e22
      have h23 := (hx 23).symm.trans e23
      have h24 := (hx 24).symm.trans e24
      have h25 := (hx 25).symm.trans e25
      have h26 := (hx 26).symm.trans e26
      have h27 := (hx 27).symm.trans e27
      have h28 := (hx 28).symm.trans e28
      have h29 := (hx 29).symm.trans e29
      have h30 := (hx 30).symm.trans e30
      have h31 := (hx 31).symm.trans e31
      have h32 := (hx 32).symm.trans e32
      have h33 := (hx 33).symm.trans e33
      have h34 := (hx 34).symm.trans e34
      have h35 := (hx 35).symm.trans e35
      have h36 := (hx 36).symm.trans e36
      have h37 := (hx 37).symm.trans e37
      have h38 := (hx 38).symm.trans e38
      have h39 := (hx 39).symm.trans e39
      have h40 := (hx 40).symm.trans e40
      have h41 := (hx 41).symm.trans e41
      have h42 := (hx 42).symm.trans e42
      have h43 := (hx 43).symm.trans e43
      have h44 := (hx 44).symm.trans e44
      have h45 := (hx 45).symm.trans e45
      have h46 := (hx 46).symm.trans e46
      have h47 := (hx 47).symm.trans e47
      have h48 := (hx 48).symm.trans e48
      have h49 := (hx 49).symm.trans e49
      have h50 := (hx 50).symm.trans e50
      have h51 := (hx 51).symm.trans e51
      have h52 := (hx 52).symm.trans e52
      have h53 := (hx 53).symm.trans e53
      have h54 := (hx 54).symm.trans e54
      have h55 := (hx 55).symm.trans e55
      have h56 := (hx 56).symm.trans e56
      have h57 := (hx 57).symm.trans e57
      have h58 := (hx 58).symm.trans e58
      have h59 := (hx 59).symm.trans e59
      have h60 := (hx 60).symm.trans e60
      have h61 := (hx 61).symm.trans e61
      have h62 := (hx 62).symm.trans e62
      have h63 := (hx 63).symm.trans e63
      have h64 := (hx 64).symm.trans e64
      have h65 := (hx 65).symm.trans e65
      have h66 := (hx 66).symm.trans e66
      have h67 := (hx 67).symm.trans e67
      have h68 := (hx 68).symm.trans e68
      have h69 := (hx 69).symm.trans e69
      have h70 := (hx 70).symm.trans e70
      have h71 := (hx 71).symm.trans e71
      have h72 := (hx 72).symm.trans e72
      have h73 := (hx 73).symm.trans e73
      have h74 := (hx 74).symm.trans e74
      have h75 := (hx 75).symm.trans e75
      have h76 := (hx 76).symm.trans e76
      have h77 := (hx 77).symm.trans e77
      have h78 := (hx 78).symm.trans e78
      have h79 := (hx 79).symm.trans e79
      have h80 := (hx 80).symm.trans e80
      have h81 := (hx 81).symm.trans e81
      have h82 := (hx 82).symm.trans e82
      have h83 := (hx 83).symm.trans e83
      have h84 := (hx 84).symm.trans e84
      have h85 := (hx 85).symm.trans e85
      have h86 := (hx 86).symm.trans e86
      have h87 := (hx 87).symm.trans e87
      have h88 := (hx 88).symm.trans e88
      have h89 := (hx 89).symm.trans e89
      have h90 := (hx 90).symm.trans e90
      have h91 := (hx 91).symm.trans e91
      have h92 := (hx 92).symm.trans e92
      have h93 := (hx 93).symm.trans e93
      have h94 := (hx 94).symm.trans e94
      have h95 := (hx 95).symm.trans e95
      have h96 := (hx 96).symm.trans e96
      have h97 := (hx 97).symm.trans e97
      have h98 := (hx 98).symm.trans e98
      have h99 := (hx 99).symm.trans e99
      have h100 := (hx 100).symm.trans e100
      have h101 := (hx 101).symm.trans e101
      have h102 := (hx 102).symm.trans e102
      have h103 := (hx 103).symm.trans e103
      have h104 := (hx 104).symm.trans e104
      have h105 := (hx 105).symm.trans e105
      have h106 := (hx 106).symm.trans e106
      have h107 := (hx 107).symm.trans e107
      have h108 := (hx 108).symm.trans e108
      have h109 := (hx 109).symm.trans e109
      have h110 := (hx 110).symm.trans e110
      have h111 := (hx 111).symm.trans e111
      have h112 := (hx 112).symm.trans e112
      have h113 := (hx 113).symm.trans e113
      have h114 := (hx 114).symm.trans e114
      have h115 := (hx 115).symm.trans e115
      have h116 := (hx 116).symm.trans e116
      have h117 := (hx 117).symm.trans e117
      have h118 := (hx 118).symm.trans e118
      have h119 := (hx 119).symm.trans e119
      have h120 := (hx 120).symm.trans e120
      have h143 := (hx 143).symm.trans e143
      have h144 := (hx 144).symm.trans e144
      have h145 := (hx 145).symm.trans e145
      have h146 := (hx 146).symm.trans e146
      have h147 := (hx 147).symm.trans e147
      have h148 := (hx 148).symm.trans e148
      have h149 := (hx 149).symm.trans e149
      have h150 := (hx 150).symm.trans e150
      have h151 := (hx 151).symm.trans e151
      have h152 := (hx 152).symm.trans e152
      have h153 := (hx 153).symm.trans e153
      have h154 := (hx 154).symm.trans e154
      have h155 := (hx 155).symm.trans e155
      have h156 := (hx 156).symm.trans e156
      have h157 := (hx 157).symm.trans e157
      have h158 := (hx 158).symm.trans e158
      have h159 := (hx 159).symm.trans e159
      have h160 := (hx 160).symm.trans e160
      have h161 := (hx 161).symm.trans e161
      have h162 := (hx 162).symm.trans e162
      have h163 := (hx 163).symm.trans e163
      have h164 := (hx 164).symm.trans e164
      have h165 := (hx 165).symm.trans e165
      have h166 := (hx 166).symm.trans e166
      have h167 := (hx 167).symm.trans e167
      have h168 := (hx 168).symm.trans e168
      have h169 := (hx 169).symm.trans e169
      have h170 := (hx 170).symm.trans e170
      have h171 := (hx 171).symm.trans e171
      have h172 := (hx 172).symm.trans e172
      have h173 := (hx 173).symm.trans e173
      have h174 := (hx 174).symm.trans e174
      have h175 := (hx 175).symm.trans e175
      have h176 := (hx 176).symm.trans e176
      have h177 := (hx 177).symm.trans e177
      have h178 := (hx 178).symm.trans e178
      have h179 := (hx 179).symm.trans e179
      have h180 := (hx 180).symm.trans e180
      have h181 := (hx 181).symm.trans e181
      have h182 := (hx 182).symm.trans e182
      have h183 := (hx 183).symm.trans e183
      have h184 := (hx 184).symm.trans e184
      have h185 := (hx 185).symm.trans e185
      have h186 := (hx 186).symm.trans e186
      have h187 := (hx 187).symm.trans e187
      have h188 := (hx 188).symm.trans e188
      have h189 := (hx 189).symm.trans e189
      have h190 := (hx 190).symm.trans e190
      have h191 := (hx 191).symm.trans e191
      have h192 := (hx 192).symm.trans e192
      have h193 := (hx 193).symm.trans e193
      have h194 := (hx 194).symm.trans e194
      have h195 := (hx 195).symm.trans e195
      have h196 := (hx 196).symm.trans e196
      have h197 := (hx 197).symm.trans e197
      have h198 := (hx 198).symm.trans e198
      have h199 := (hx 199).symm.trans e199
      have ht' : t = #[x 0, x 1, x 2, x 3, x 4, x 5, x 6, x 7, x 8, x 9, x 10, x 11, x 12, x 13, x 14, x 15, x 16, x 17, x 18, x 19, x 20, x 21, x 22, x 23, x 24, x 25, x 26, x 27, x 28, x 29, x 30, x 31, x 32, x 33, x 34, x 35, x 36, x 37, x 38, x 39, x 40, x 41, x 42, x 43, x 44, x 45, x 46, x 47, x 48, x 49, x 50, x 51, x 52, x 53, x 54, x 55, x 56, x 57, x 58, x 59, x 60, x 61, x 62, x 63, x 64, x 65, x 66, x 67, x 68, x 69, x 70, x 71, x 72, x 73, x 74, x 75, x 76, x 77, x 78, x 79, x 80, x 81, x 82, x 83, x 84, x 85, x 86, x 87, x 88, x 89, x 90, x 91, x 92, x 93, x 94, x 95, x 96, x 97, x 98, x 99, x 100, x 101, x 102, x 103, x 104, x 105, x 106, x 107, x 108, x 109, x 110, x 111, x 112, x 113, x 114, x 115, x 116, x 117, x 118, x 119, x 120, x 121, x 122, x 123, x 124, x 125, x 126, x 127, x 128, x 129, x 130, x 131, x 132, x 133, x 134, x 135, x 136, x 137, x 138, x 139, x 140, x 141, x 142, x 143, x 144, x 145, x 146, x 147, x 148, x 149, x 150, x 151, x 152, x 153, x 154, x 155, x 156, x 157, x 158, x 159, x 160, x 161, x 162, x 163, x 164, x 165, x 166, x 167, x 168, x 169, x 170, x 171, x 172, x 173, x 174, x 175, x 176, x 177, x 178, x 179, x 180, x 181, x 182, x 183, x 184, x 185, x 186, x 187, x 188, x 189, x 190, x 191, x 192, x 193, x 194, x 195, x 196, x 197, x 198, x 199] := frame_lit t 200 hsz x hx
      clear hx hsz hz e142 e0 e1 e2 e3 e4 e5 e6 e7 e8 e9 e10 e11 e12 e13 e14 e15 e16 e17 e18 e19 e20 e21 e22 e23 e24 e25 e26 e27 e28 e29 e30 e31 e32 e33 e34 e35 e36 e37 e38 e39 e40 e41 e42 e43 e44 e45 e46 e47 e48 e49 e50 e51 e52 e53 e54 e55 e56 e57 e58 e59 e60 e61 e62 e63 e64 e65 e66 e67 e68 e69 e70 e71 e72 e73 e74 e75 e76 e77 e78 e79 e80 e81 e82 e83 e84 e85 e86 e87 e88 e89 e90 e91 e92 e93 e94 e95 e96 e97 e98 e99 e100 e101 e102 e103 e104 e105 e106 e107 e108 e109 e110 e111 e112 e113 e114 e115 e116 e117 e118 e119 e120 e143 e144 e145 e146 e147 e148 e149 e150 e151 e152 e153 e154 e155 e156 e157 e158 e159 e160 e161 e162 e163 e164 e165 e166 e167 e168 e169 e170 e171 e172 e173 e174 e175 e176 e177 e178 e179 e180 e181 e182 e183 e184 e185 e186 e187 e188 e189 e190 e191 e192 e193 e194 e195 e196 e197 e198 e199
      subst ht'
      dsimp only
      rw [h142, h0, h1, h2, h3, h4, h5, h6, h7, h8, h9, h10, h11, h12, h13, h14, h15, h16, h17, h18, h19, h20, h21, h22, h23, h24, h25, h26, h27, h28, h29, h30, h31, h32, h33, h34, h35, h36, h37, h38, h39, h40, h41, h42, h43, h44, h45, h46, h47, h48, h49, h50, h51, h52, h53, h54, h55, h56, h57, h58, h59, h60, h61, h62, h63, h64, h65, h66, h67, h68, h69, h70, h71, h72, h73, h74, h75, h76, h77, h78, h79, h80, h81, h82, h83, h84, h85, h86, h87, h88, h89, h90, h91, h92, h93, h94, h95, h96, h97, h98, h99, h100, h101, h102, h103, h104, h105, h106, h107, h108, h109, h110, h111, h112, h113, h114, h115, h116, h117, h118, h119, h120, h143, h144, h145, h146, h147, h148, h149, h150, h151, h152, h153, h154, h155, h156, h157, h158, h159, h160, h161, h162, h163, h164, h165, h166, h167, h168, h169, h170, h171, h172, h173, h174, h175, h176, h177, h178, h179, h180, h181, h182, h183, h184, h185, h186, h187, h188, h189, h190, h191, h192, h193, h194, h195, h196, h197, h198, h199]
      clear h142 h0 h1 h2 h3 h4 h5 h6 h7 h8 h9 h10 h11 h12 h13 h14 h15 h16 h17 h18 h19 h20 h21 h22 h23 h24 h25 h26 h27 h28 h29 h30 h31 h32 h33 h34 h35 h36 h37 h38 h39 h40 h41 h42 h43 h44 h45 h46 h47 h48 h49 h50 h51 h52 h53 h54 h55 h56 h57 h58 h59 h60 h61 h62 h63 h64 h65 h66 h67 h68 h69 h70 h71 h72 h73 h74 h75 h76 h77 h78 h79 h80 h81 h82 h83 h84 h85 h86 h87 h88 h89 h90 h91 h92 h93 h94 h95 h96 h97 h98 h99 h100 h101 h102 h103 h104 h105 h106 h107 h108 h109 h110 h111 h112 h113 h114 h115 h116 h117 h118 h119 h120 h143 h144 h145 h146 h147 h148 h149 h150 h151 h152 h153 h154 h155 h156 h157 h158 h159 h160 h161 h162 h163 h164 h165 h166 h167 h168 h169 h170 h171 h172 h173 h174 h175 h176 h177 h178 h179 h180 h181 h182 h183 h184 h185 h186 h187 h188 h189 h190 h191 h192 h193 h194 h195 h196 h197 h198 h199
      have hb := from_drew hS
      replace hB := hB.trans (hb.mono hB.size)
      replace hD := hD.later hb
      replace hX := hX.later hb
      replace hrx := hrx.later hb
      replace hY := hY.later hb
      replace hry := hry.later hb
      clear hS hb
      have qD := hD.at
      unfold confBox at qD
      have qX := hX.at
      unfold frBox at qX
      have qY := hY.at
      unfold frBox at qY
      go_wp2_with fail
      refine (HWv.out _).mono ?_
      rintro e wl ⟨rfl, rfl⟩
      have hI : Blk (w6.alloc (.cells #[.int .i64 2, .int .i64 v] 29)) w6.heap.size 29 #[.int .i64 2, .int .i64 v] := Blk.new w6 _ _
      clear qD qX qY
      replace hB := hB.alloc hB.size (.cells #[.int .i64 2, .int .i64 v] 29)
      replace hD := hD.alloc (.cells #[.int .i64 2, .int .i64 v] 29)
      replace hX := hX.alloc (.cells #[.int .i64 2, .int .i64 v] 29)
      replace hY := hY.alloc (.cells #[.int .i64 2, .int .i64 v] 29)
      replace hrx := hrx.alloc (.cells #[.int .i64 2, .int .i64 v] 29)
      replace hry := hry.alloc (.cells #[.int .i64 2, .int .i64 v] 29)
      go_upto_region 25 with fail
      generalize w6.alloc (.cells #[.int .i64 2, .int .i64 v] 29) = w7 at *
      generalize w6.heap.size = vb at *
      have qD := hD.at
      unfold confBox at qD
      have qX := hX.at
      unfold frBox at qX
      have qY := hY.at
      unfold frBox at qY
      have qI := hI.at
      go_wp2_with fail
      refine (HWh.out _).mono ?_
      rintro e wl ⟨rfl, rfl⟩
      go_upto_region 28 with fail
      clear qD qX qY qI
      go_loopw [21] (fun i w' => ∃ k : Nat, i = .int .i64 k ∧ k ≤ yF.E.length ∧ Below w.heap.size w w' ∧ Blk w' yb 32 (frBox yF ra rc) ∧ Blk w' xb 32 (frBox xf xa xc) ∧ Blk w' vb 29 #[.int .i64 2, .int .i64 v] ∧ RowT w' ra yF.E) (fun i _ => yF.E.length - (intOf i).toNat)
      case atStart => exact ⟨0, rfl, Nat.zero_le _, hB, hY, hX, hI, hry⟩
      case round =>
        clear hB hY hX hI hry hD hrx
        obtain ⟨k, rfl, hk, hB, hY, hX, hI, hry⟩ := hrel
        have qY := hY.at
        unfold frBox at qY
        have qX := hX.at
        unfold frBox at qX
        by_cases hlt : k < yF.E.length
        · have d3 : decide (k < yF.E.length) = true := by simpa using hlt
          have d3' : decide ((k : Int) < (yF.E.length : Int)) = true := by simp; omega
          obtain ⟨t, ht⟩ : ∃ t, yF.E[k] = t := ⟨_, rfl⟩
          have htv : t = ⟨2, v⟩ := hyE t (by rw [← ht]; exact List.getElem_mem hlt)
          obtain ⟨b1, o1, rfl, hb1, _, _, _, _⟩ := hry.get k hlt
          have HCt := Lib.hid (fun W (hh : RowT W (some ⟨b1, o1, none⟩) yF.E) => hh.cellsAt k hlt)
          rw [ht, htv] at HCt
          clear ht htv hb1
          have k0 : (0 : Int) ≤ (k : Int) := by omega
          have k1 : (k : Int) < (yF.E.length : Int) := by omega
          have c1 : (v == v) = true := by simp
          go_upto_region 30 with fail
          clear qY qX
          refine region_slots [some 172, some 173, some 174, some 175, some 176, some 177, some 178] [none, none, none, none, none, none, none] 200 7 rfl (by kernel_rfl) (by kernel_rfl) rfl rfl ?_
          apply step_fix
          · intro a W Zs hS hFm hz hd
            have h18 := hFm.old 18 rfl
            conv at h18 => rhs; whnf
            replace h18 := ev_get hFm.size h18
            refine .inl ⟨wanted_none rfl _, fun K hK => ?_⟩
            have HK := Lib.hid hK
            clear hd hFm hK
            go_simp
            exact HK.out _ _ rfl (Below.refl _ _)
          simp only [List.nil_append, List.cons_append]
          apply step_fix
          · intro a W Zs hS hFm hz hd
            have h172 := ev_get hFm.size (hd 0 172 rfl rfl)
            have hq := (hY.drew1.later hS).at
            unfold frBox at hq
            refine .inl ⟨wanted_none rfl _, fun K hK => ?_⟩
            have HK := Lib.hid hK
            clear hd hFm hK
            go_simp
            exact HK.out _ _ rfl (Below.refl _ _)
          simp only [List.nil_append, List.cons_append]
          apply step_fix
          · intro a W Zs hS hFm hz hd
            have h21 := hFm.old 21 rfl
            conv at h21 => rhs; whnf
            replace h21 := ev_get hFm.size h21
            refine .inl ⟨wanted_none rfl _, fun K hK => ?_⟩
            have HK := Lib.hid hK
            clear hd hFm hK
            go_simp
            exact HK.out _ _ rfl (Below.refl _ _)
          simp only [List.nil_append, List.cons_append]
          apply step_fix
          · intro a W Zs hS hFm hz hd
            have h173 := ev_get hFm.size (hd 1 173 rfl rfl)
            have h174 := ev_get hFm.size (hd 2 174 rfl rfl)
            refine .inl ⟨wanted_none rfl _, fun K hK => ?_⟩
            have HK := Lib.hid hK
            clear hd hFm hK
            go_simp
            exact HK.out _ _ rfl (Below.refl _ _)
          simp only [List.nil_append, List.cons_append]
          apply step_fix
          · intro a W Zs hS hFm hz hd
            have h175 := ev_get hFm.size (hd 3 175 rfl rfl)
            obtain ⟨hq1, hq2⟩ := HCt.out _ (hry.drew1.later hS)
            refine .inl ⟨wanted_none rfl _, fun K hK => ?_⟩
            have HK := Lib.hid hK
            clear hd hFm hK
            go_simp
            exact HK.out _ _ rfl (Below.refl _ _)
          simp only [List.nil_append, List.cons_append]
          apply step_fix
          · intro a W Zs hS hFm hz hd
            have h20 := hFm.old 20 rfl
            conv at h20 => rhs; whnf
            replace h20 := ev_get hFm.size h20
            have hq := (hI.drew1.later hS).at
            refine .inl ⟨wanted_none rfl _, fun K hK => ?_⟩
            have HK := Lib.hid hK
            clear hd hFm hK
            go_simp
            exact HK.out _ _ rfl (Below.refl _ _)
          simp only [List.nil_append, List.cons_append]
          apply step_fix
          · intro a W Zs hS hFm hz hd
            have h176 := ev_get hFm.size (hd 4 176 rfl rfl)
            have h177 := ev_get hFm.size (hd 5 177 rfl rfl)
            refine .inl ⟨wanted_none rfl _, fun K hK => ?_⟩
            have HK := Lib.hid hK
            clear hd hFm hK
            go_simp
            exact HK.out _ _ rfl (Below.refl _ _)
          simp only [List.nil_append, List.cons_append]
          intro a w8 Zs hS hFm hz hd
          have e178 := hd 6 178 (by decide) rfl
          have e0 := hFm.old 0 rfl
          conv at e0 => rhs; whnf
          have e1 := hFm.old 1 rfl
          conv at e1 => rhs; whnf
          have e2 := hFm.old 2 rfl
          conv at e2 => rhs; whnf
          have e3 := hFm.old 3 rfl
          conv at e3 => rhs; whnf
          have e4 := hFm.old 4 rfl
          conv at e4 => rhs; whnf
          have e5 := hFm.old 5 rfl
          conv at e5 => rhs; whnf
          have e6 := hFm.old 6 rfl
          conv at e6 => rhs; whnf
          have e7 := hFm.old 7 rfl
          conv at e7 => rhs; whnf
          have e8 := hFm.old 8 rfl
          conv at e8 => rhs; whnf
          have e9 := hFm.old 9 rfl
          conv at e9 => rhs; whnf
          have e10 := hFm.old 10 rfl
          conv at e10 => rhs; whnf
          have e11 := hFm.old 11 rfl
          conv at e11 => rhs; whnf
          have e12 := hFm.old 12 rfl
          conv at e12 => rhs; whnf
          have e13 := hFm.old 13 rfl
          conv at e13 => rhs; whnf
          have e14 := hFm.old 14 rfl
          conv at e14 => rhs; whnf
          have e15 := hFm.old 15 rfl
          conv at e15 => rhs; whnf
          have e16 := hFm.old 16 rfl
          conv at e16 => rhs; whnf
          have e17 := hFm.old 17 rfl
          conv at e17 => rhs; whnf
          have e18 := hFm.old 18 rfl
          conv at e18 => rhs; whnf
          have e19 := hFm.old 19 rfl
          conv at e19 => rhs; whnf
          have e20 := hFm.old 20 rfl
          conv at e20 => rhs; whnf
          have e21 := hFm.old 21 rfl
          conv at e21 => rhs; whnf
          have e22 := hFm.old 22 rfl
          conv at e22 => rhs; whnf
          have e23 := hFm.old 23 rfl
          conv at e23 => rhs; whnf
          have e24 := hFm.old 24 rfl
          conv at e24 => rhs; whnf
          have e25 := hFm.old 25 rfl
          conv at e25 => rhs; whnf
          have e26 := hFm.old 26 rfl
          conv at e26 => rhs; whnf
          have e27 := hFm.old 27 rfl
          conv at e27 => rhs; whnf
          have e28 := hFm.old 28 rfl
          conv at e28 => rhs; whnf
          have e29 := hFm.old 29 rfl
          conv at e29 => rhs; whnf
          have e30 := hFm.old 30 rfl
          conv at e30 => rhs; whnf
          have e31 := hFm.old 31 rfl
          conv at e31 => rhs; whnf
          have e32 := hFm.old 32 rfl
          conv at e32 => rhs; whnf
          have e33 := hFm.old 33 rfl
          conv at e33 => rhs; whnf
          have e34 := hFm.old 34 rfl
          conv at e34 => rhs; whnf
          have e35 := hFm.old 35 rfl
          conv at e35 => rhs; whnf
          have e36 := hFm.old 36 rfl
          conv at e36 => rhs; whnf
          have e37 := hFm.old 37 rfl
          conv at e37 => rhs; whnf
          have e38 := hFm.old 38 rfl
          conv at e38 => rhs; whnf
          have e39 := hFm.old 39 rfl
          conv at e39 => rhs; whnf
          have e40 := hFm.old 40 rfl
          conv at e40 => rhs; whnf
          have e41 := hFm.old 41 rfl
          conv at e41 => rhs; whnf
          have e42 := hFm.old 42 rfl
          conv at e42 => rhs; whnf
          have e43 := hFm.old 43 rfl
          conv at e43 => rhs; whnf
          have e44 := hFm.old 44 rfl
          conv at e44 => rhs; whnf
          have e45 := hFm.old 45 rfl
          conv at e45 => rhs; whnf
          have e46 := hFm.old 46 rfl
          conv at e46 => rhs; whnf
          have e47 := hFm.old 47 rfl
          conv at e47 => rhs; whnf
          have e48 := hFm.old 48 rfl
          conv at e48 => rhs; whnf
          have e49 := hFm.old 49 rfl
          conv at e49 => rhs; whnf
          have e50 := hFm.old 50 rfl
          conv at e50 => rhs; whnf
          have e51 := hFm.old 51 rfl
          conv at e51 => rhs; whnf
          have e52 := hFm.old 52 rfl
          conv at e52 => rhs; whnf
          have e53 := hFm.old 53 rfl
          conv at e53 => rhs; whnf
          have e54 := hFm.old 54 rfl
          conv at e54 => rhs; whnf
          have e55 := hFm.old 55 rfl
          conv at e55 => rhs; whnf
          have e56 := hFm.old 56 rfl
          conv at e56 => rhs; whnf
          have e57 := hFm.old 57 rfl
          conv at e57 => rhs; whnf
          have e58 := hFm.old 58 rfl
          conv at e58 => rhs; whnf
          have e59 := hFm.old 59 rfl
          conv at e59 => rhs; whnf
          have e60 := hFm.old 60 rfl
          conv at e60 => rhs; whnf
          have e61 := hFm.old 61 rfl
          conv at e61 => rhs; whnf
          have e62 := hFm.old 62 rfl
          conv at e62 => rhs; whnf
          have e63 := hFm.old 63 rfl
          conv at e63 => rhs; whnf
          have e64 := hFm.old 64 rfl
          conv at e64 => rhs; whnf
          have e65 := hFm.old 65 rfl
          conv at e65 => rhs; whnf
          have e66 := hFm.old 66 rfl
          conv at e66 => rhs; whnf
          have e67 := hFm.old 67 rfl
          conv at e67 => rhs; whnf
          have e68 := hFm.old 68 rfl
          conv at e68 => rhs; whnf
          have e69 := hFm.old 69 rfl
          conv at e69 => rhs; whnf
          have e70 := hFm.old 70 rfl
          conv at e70 => rhs; whnf
          have e71 := hFm.old 71 rfl
          conv at e71 => rhs; whnf
          have e72 := hFm.old 72 rfl
          conv at e72 => rhs; whnf
          have e73 := hFm.old 73 rfl
          conv at e73 => rhs; whnf
          have e74 := hFm.old 74 rfl
          conv at e74 => rhs; whnf
          have e75 := hFm.old 75 rfl
          conv at e75 => rhs; whnf
          have e76 := hFm.old 76 rfl
          conv at e76 => rhs; whnf
          have e77 := hFm.old 77 rfl
          conv at e77 => rhs; whnf
          have e78 := hFm.old 78 rfl
          conv at e78 => rhs; whnf
          have e79 := hFm.old 79 rfl
          conv at e79 => rhs; whnf
          have e80 := hFm.old 80 rfl
          conv at e80 => rhs; whnf
          have e81 := hFm.old 81 rfl
          conv at e81 => rhs; whnf
          have e82 := hFm.old 82 rfl
          conv at e82 => rhs; whnf
          have e83 := hFm.old 83 rfl
          conv at e83 => rhs; whnf
          have e84 := hFm.old 84 rfl
          conv at e84 => rhs; whnf
          have e85 := hFm.old 85 rfl
          conv at e85 => rhs; whnf
          have e86 := hFm.old 86 rfl
          conv at e86 => rhs; whnf
          have e87 := hFm.old 87 rfl
          conv at e87 => rhs; whnf
          have e88 := hFm.old 88 rfl
          conv at e88 => rhs; whnf
          have e89 := hFm.old 89 rfl
          conv at e89 => rhs; whnf
          have e90 := hFm.old 90 rfl
          conv at e90 => rhs; whnf
          have e91 := hFm.old 91 rfl
          conv at e91 => rhs; whnf
          have e92 := hFm.old 92 rfl
          conv at e92 => rhs; whnf
          have e93 := hFm.old 93 rfl
          conv at e93 => rhs; whnf
          have e94 := hFm.old 94 rfl
          conv at e94 => rhs; whnf
          have e95 := hFm.old 95 rfl
          conv at e95 => rhs; whnf
          have e96 := hFm.old 96 rfl
          conv at e96 => rhs; whnf
          have e97 := hFm.old 97 rfl
          conv at e97 => rhs; whnf
          have e98 := hFm.old 98 rfl
          conv at e98 => rhs; whnf
          have e99 := hFm.old 99 rfl
          conv at e99 => rhs; whnf
          have e100 := hFm.old 100 rfl
          conv at e100 => rhs; whnf
          have e101 := hFm.old 101 rfl
          conv at e101 => rhs; whnf
          have e102 := hFm.old 102 rfl
          conv at e102 => rhs; whnf
          have e103 := hFm.old 103 rfl
          conv at e103 => rhs; whnf
          have e104 := hFm.old 104 rfl
          conv at e104 => rhs; whnf
          have e105 := hFm.old 105 rfl
          conv at e105 => rhs; whnf
          have e106 := hFm.old 106 rfl
          conv at e106 => rhs; whnf
          have e107 := hFm.old 107 rfl
          conv at e107 => rhs; whnf
          have e108 := hFm.old 108 rfl
          conv at e108 => rhs; whnf
          have e109 := hFm.old 109 rfl
          conv at e109 => rhs; whnf
          have e110 := hFm.old 110 rfl
          conv at e110 => rhs; whnf
          have e111 := hFm.old 111 rfl
          conv at e111 => rhs; whnf
          have e112 := hFm.old 112 rfl
          conv at e112 => rhs; whnf
          have e113 := hFm.old 113 rfl
          conv at e113 => rhs; whnf
          have e114 := hFm.old 114 rfl
          conv at e114 => rhs; whnf
          have e115 := hFm.old 115 rfl
          conv at e115 => rhs; whnf
          have e116 := hFm.old 116 rfl
          conv at e116 => rhs; whnf
          have e117 := hFm.old 117 rfl
          conv at e117 => rhs; whnf
          have e118 := hFm.old 118 rfl
          conv at e118 => rhs; whnf
          have e119 := hFm.old 119 rfl
          conv at e119 => rhs; whnf
          have e120 := hFm.old 120 rfl
          conv at e120 => rhs; whnf
          have e121 := hFm.old 121 rfl
          conv at e121 => rhs; whnf
          have e122 := hFm.old 122 rfl
          conv at e122 => rhs; whnf
          have e123 := hFm.old 123 rfl
          conv at e123 => rhs; whnf
          have e124 := hFm.old 124 rfl
          conv at e124 => rhs; whnf
          have e125 := hFm.old 125 rfl
          conv at e125 => rhs; whnf
          have e126 := hFm.old 126 rfl
          conv at e126 => rhs; whnf
          have e127 := hFm.old 127 rfl
          conv at e127 => rhs; whnf
          have e128 := hFm.old 128 rfl
          conv at e128 => rhs; whnf
          have e129 := hFm.old 129 rfl
          conv at e129 => rhs; whnf
          have e130 := hFm.old 130 rfl
          conv at e130 => rhs; whnf
          have e131 := hFm.old 131 rfl
          conv at e131 => rhs; whnf
          have e132 := hFm.old 132 rfl
          conv at e132 => rhs; whnf
          have e133 := hFm.old 133 rfl
          conv at e133 => rhs; whnf
          have e134 := hFm.old 134 rfl
          conv at e134 => rhs; whnf
          have e135 := hFm.old 135 rfl
          conv at e135 => rhs; whnf
          have e136 := hFm.old 136 rfl
          conv at e136 => rhs; whnf
          have e137 := hFm.old 137 rfl
          conv at e137 => rhs; whnf
          have e138 := hFm.old 138 rfl
          conv at e138 => rhs; whnf
          have e139 := hFm.old 139 rfl
          conv at e139 => rhs; whnf
          have e140 := hFm.old 140 rfl
          conv at e140 => rhs; whnf
          have e141 := hFm.old 141 rfl
          conv at e141 => rhs; whnf
          have e142 := hFm.old 142 rfl
          conv at e142 => rhs; whnf
          have e143 := hFm.old 143 rfl
          conv at e143 => rhs; whnf
          have e144 := hFm.old 144 rfl
          conv at e144 => rhs; whnf
          have e145 := hFm.old 145 rfl
          conv at e145 => rhs; whnf
          have e146 := hFm.old 146 rfl
          conv at e146 => rhs; whnf
          have e147 := hFm.old 147 rfl
          conv at e147 => rhs; whnf
          have e148 := hFm.old 148 rfl
          conv at e148 => rhs; whnf
          have e149 := hFm.old 149 rfl
          conv at e149 => rhs; whnf
          have e150 := hFm.old 150 rfl
          conv at e150 => rhs; whnf
          have e151 := hFm.old 151 rfl
          conv at e151 => rhs; whnf
          have e152 := hFm.old 152 rfl
          conv at e152 => rhs; whnf
          have e153 := hFm.old 153 rfl
          conv at e153 => rhs; whnf
          have e154 := hFm.old 154 rfl
          conv at e154 => rhs; whnf
          have e155 := hFm.old 155 rfl
          conv at e155 => rhs; whnf
          have e156 := hFm.old 156 rfl
          conv at e156 => rhs; whnf
          have e157 := hFm.old 157 rfl
          conv at e157 => rhs; whnf
          have e158 := hFm.old 158 rfl
          conv at e158 => rhs; whnf
          have e159 := hFm.old 159 rfl
          conv at e159 => rhs; whnf
          have e160 := hFm.old 160 rfl
          conv at e160 => rhs; whnf
          have e161 := hFm.old 161 rfl
          conv at e161 => rhs; whnf
          have e162 := hFm.old 162 rfl
          conv at e162 => rhs; whnf
          have e163 := hFm.old 163 rfl
          conv at e163 => rhs; whnf
          have e164 := hFm.old 164 rfl
          conv at e164 => rhs; whnf
          have e165 := hFm.old 165 rfl
          conv at e165 => rhs; whnf
          have e166 := hFm.old 166 rfl
          conv at e166 => rhs; whnf
          have e167 := hFm.old 167 rfl
          conv at e167 => rhs; whnf
          have e168 := hFm.old 168 rfl
          conv at e168 => rhs; whnf
          have e169 := hFm.old 169 rfl
          conv at e169 => rhs; whnf
          have e170 := hFm.old 170 rfl
          conv at e170 => rhs; whnf
          have e171 := hFm.old 171 rfl
          conv at e171 => rhs; whnf
          have e179 := hFm.old 179 rfl
          conv at e179 => rhs; whnf
          have e180 := hFm.old 180 rfl
          conv at e180 => rhs; whnf
          have e181 := hFm.old 181 rfl
          conv at e181 => rhs; whnf
          have e182 := hFm.old 182 rfl
          conv at e182 => rhs; whnf
          have e183 := hFm.old 183 rfl
          conv at e183 => rhs; whnf
          have e184 := hFm.old 184 rfl
          conv at e184 => rhs; whnf
          have e185 := hFm.old 185 rfl
          conv at e185 => rhs; whnf
          have e186 := hFm.old 186 rfl
          conv at e186 => rhs; whnf
          have e187 := hFm.old 187 rfl
          conv at e187 => rhs; whnf
          have e188 := hFm.old 188 rfl
          conv at e188 => rhs; whnf
          have e189 := hFm.old 189 rfl
          conv at e189 => rhs; whnf
          have e190 := hFm.old 190 rfl
          conv at e190 => rhs; whnf
          have e191 := hFm.old 191 rfl
          conv at e191 => rhs; whnf
          have e192 := hFm.old 192 rfl
          conv at e192 => rhs; whnf
          have e193 := hFm.old 193 rfl
          conv at e193 => rhs; whnf
          have e194 := hFm.old 194 rfl
          conv at e194 => rhs; whnf
          have e195 := hFm.old 195 rfl
          conv at e195 => rhs; whnf
          have e196 := hFm.old 196 rfl
          conv at e196 => rhs; whnf
          have e197 := hFm.old 197 rfl
          conv at e197 => rhs; whnf
          have e198 := hFm.old 198 rfl
          conv at e198 => rhs; whnf
          have e199 := hFm.old 199 rfl
          conv at e199 => rhs; whnf
          have hsz := hFm.size
          have hdf := hFm.defers
          clear hd hFm
          obtain ⟨t, df⟩ := a
          simp only at hsz hdf
          subst hdf
          obtain ⟨x, hx⟩ : ∃ x : Nat → Value, ∀ i, t.getD i undef = x i := ⟨fun i => t.getD i undef, fun _ => rfl⟩
          have h178 := (hx 178).symm.trans e178
          have h0 := (hx 0).symm.trans e0
          have h1 := (hx 1).symm.trans e1
          have h2 := (hx 2).symm.trans e2
          have h3 := (hx 3).symm.trans e3
          have h4 := (hx 4).symm.trans e4
          have h5 := (hx 5).symm.trans e5
          have h6 := (hx 6).symm.trans e6
          have h7 := (hx 7).symm.trans e7
          have h8 := (hx 8).symm.trans e8
          have h9 := (hx 9).symm.trans e9
          have h10 := (hx 10).symm.trans e10
          have h11 := (hx 11).symm.trans e11
          have h12 := (hx 12).symm.trans e12
          have h13 := (hx 13).symm.trans e13
          have h14 := (hx 14).symm.trans e14
          have h15 := (hx 15).symm.trans e15
          have h16 := (hx 16).symm.trans e16
          have h17 := (hx 17).symm.trans e17
          have h18 := (hx 18).symm.trans e18
          have h19 := (hx 19).symm.trans e19
          have h20 := (hx 20).symm.trans e20
          have h21 := (hx 21).symm.trans e21
          have h22 := (hx 22).symm.trans e22
          have h23 := (hx 23).symm.trans e23
          have h24 := (hx 24).symm.trans e24
          have h25 := (hx 25).symm.trans e25
          have h26 := (hx 26).symm.trans e26
          have h27 := (hx 27).symm.trans e27
          have h28 := (hx 28).symm.trans e28
          have h29 := (hx 29).symm.trans e29
          have h30 := (hx 30).symm.trans e30
          have h31 := (hx 31).symm.trans e31
          have h32 := (hx 32).symm.trans e32
          have h33 := (hx 33).symm.trans e33
          have h34 := (hx 34).symm.trans e34
          have h35 := (hx 35).symm.trans e35
          have h36 := (hx 36).symm.trans e36
          have h37 := (hx 37).symm.trans e37
          have h38 := (hx 38).symm.trans e38
          have h39 := (hx 39).symm.trans e39
          have h40 := (hx 40).symm.trans e40
          have h41 := (hx 41).symm.trans e41
          have h42 := (hx 42).symm.trans e42
          have h43 := (hx 43).symm.trans e43
          have h44 := (hx 44).symm.trans e44
          have h45 := (hx 45).symm.trans e45
          have h46 := (hx 46).symm.trans e46
          have h47 := (hx 47).symm.trans e47
          have h48 := (hx 48).symm.trans e48
          have h49 := (hx 49).symm.trans e49
          have h50 := (hx 50).symm.trans e50
          have h51 := (hx 51).symm.trans e51
          have h52 := (hx 52).symm.trans e52
          have h53 := (hx 53).symm.trans e53
          have h54 := (hx 54).symm.trans e54
          have h55 := (hx 55).symm.trans e55
          have h56 := (hx 56).symm.trans e56
          have h57 := (hx 57).symm.trans e57
          have h58 := (hx 58).symm.trans e58
          have h59 := (hx 59).symm.trans e59
          have h60 := (hx 60).symm.trans e60
          have h61 := (hx 61).symm.trans e61
          have h62 := (hx 62).symm.trans e62
          have h63 := (hx 63).symm.trans e63
          have h64 := (hx 64).symm.trans e64
          have h65 := (hx 65).symm.trans e65
          have h66 := (hx 66).symm.trans e66
          have h67 := (hx 67).symm.trans e67
          have h68 := (hx 68).symm.trans e68
          have h69 := (hx 69).symm.trans e69
          have h70 := (hx 70).symm.trans e70
          have h71 := (hx 71).symm.trans e71
          have h72 := (hx 72).symm.trans e72
          have h73 := (hx 73).symm.trans e73
          have h74 := (hx 74).symm.trans e74
          have h75 := (hx 75).symm.trans e75
          have h76 := (hx 76).symm.trans e76
          have h77 := (hx 77).symm.trans e77
          have h78 := (hx 78).symm.trans e78
          have h79 := (hx 79).symm.trans e79
          have h80 := (hx 80).symm.trans e80
          have h81 := (hx 81).symm.trans e81
          have h82 := (hx 82).symm.trans e82
          have h83 := (hx 83).symm.trans e83
          have h84 := (hx 84).symm.trans e84
          have h85 := (hx 85).symm.trans e85
          have h86 := (hx 86).symm.trans e86
          have h87 := (hx 87).symm.trans e87
          have h88 := (hx 88).symm.trans e88
          have h89 := (hx 89).symm.trans e89
          have h90 := (hx 90).symm.trans e90
          have h91 := (hx 91).symm.trans e91
          have h92 := (hx 92).symm.trans e92
          have h93 := (hx 93).symm.trans e93
          have h94 := (hx 94).symm.trans e94
          have h95 := (hx 95).symm.trans e95
          have h96 := (hx 96).symm.trans e96
          have h97 := (hx 97).symm.trans e97
          have h98 := (hx 98).symm.trans e98
          have h99 := (hx 99).symm.trans e99
          have h100 := (hx 100).symm.trans e100
          have h101 := (hx 101).symm.trans e101
          have h102 := (hx 102).symm.trans e102
          have h103 := (hx 103).symm.trans e103
          have h104 := (hx 104).symm.trans e104
          have h105 := (hx 105).symm.trans e105
          have h106 := (hx 106).symm.trans e106
          have h107 := (hx 107).symm.trans e107
          have h108 := (hx 108).symm.trans e108
          have h109 := (hx 109).symm.trans e109
          have h110 := (hx 110).symm.trans e110
          have h111 := (hx 111).symm.trans e111
          have h112 := (hx 112).symm.trans e112
          have h113 := (hx 113).symm.trans e113
          have h114 := (hx 114).symm.trans e114
          have h115 := (hx 115).symm.trans e115
          have h116 := (hx 116).symm.trans e116
          have h117 := (hx 117).symm.trans e117
          have h118 := (hx 118).symm.trans e118
          have h119 := (hx 119).symm.trans e119
          have h120 := (hx 120).symm.trans e120
          have h121 := (hx 121).symm.trans e121
          have h122 := (hx 122).symm.trans e122
          have h123 := (hx 123).symm.trans e123
          have h124 := (hx 124).symm.trans e124
          have h125 := (hx 125).symm.trans e125
          have h126 := (hx 126).symm.trans e126
          have h127 := (hx 127).symm.trans e127
          have h128 := (hx 128).symm.trans e128
          have h129 := (hx 129).symm.trans e129
          have h130 := (hx 130).symm.trans e130
          have h131 := (hx 131).symm.trans e131
          have h132 := (hx 132).symm.trans e132
          have h133 := (hx 133).symm.trans e133
          have h134 := (hx 134).symm.trans e134
          have h135 := (hx 135).symm.trans e135
          have h136 := (hx 136).symm.trans e136
          have h137 := (hx 137).symm.trans e137
          have h138 := (hx 138).symm.trans e138
          have h139 := (hx 139).symm.trans e139
          have h140 := (hx 140).symm.trans e140
          have h141 := (hx 141).symm.trans e141
          have h142 := (hx 142).symm.trans e142
          have h143 := (hx 143).symm.trans e143
          have h144 := (hx 144).symm.trans e144
          have h145 := (hx 145).symm.trans e145
          have h146 := (hx 146).symm.trans e146
          have h147 := (hx 147).symm.trans e147
          have h148 := (hx 148).symm.trans e148
          have h149 := (hx 149).symm.trans e149
          have h150 := (hx 150).symm.trans e150
          have h151 := (hx 151).symm.trans e151
          have h152 := (hx 152).symm.trans e152
          have h153 := (hx 153).symm.trans e153
          have h154 := (hx 154).symm.trans e154
          have h155 := (hx 155).symm.trans e155
          have h156 := (hx 156).symm.trans e156
          have h157 := (hx 157).symm.trans e157
          have h158 := (hx 158).symm.trans e158
          have h159 := (hx 159).symm.trans e159
          have h160 := (hx 160).symm.trans e160
          have h161 := (hx 161).symm.trans e161
          have h162 := (hx 162).symm.trans e162
          have h163 := (hx 163).symm.trans e163
          have h164 := (hx 164).symm.trans e164
          have h165 := (hx 165).symm.trans e165
          have h166 := (hx 166).symm.trans e166
          have h167 := (hx 167).symm.trans e167
          have h168 := (hx 168).symm.trans e168
          have h169 := (hx 169).symm.trans e169
          have h170 := (hx 170).symm.trans e170
          have h171 := (hx 171).symm.trans e171
          have h179 := (hx 179).symm.trans e179
          have h180 := (hx 180).symm.trans e180
          have h181 := (hx 181).symm.trans e181
          have h182 := (hx 182).symm.trans e182
          have h183 := (hx 183).symm.trans e183
          have h184 := (hx 184).symm.trans e184
          have h185 := (hx 185).symm.trans e185
          have h186 := (hx 186).symm.trans e186
          have h187 := (hx 187).symm.trans e187
          have h188 := (hx 188).symm.trans e188
          have h189 := (hx 189).symm.trans e189
          have h190 := (hx 190).symm.trans e190
          have h191 := (hx 191).symm.trans e191
          have h192 := (hx 192).symm.trans e192
          have h193 := (hx 193).symm.trans e193
          have h194 := (hx 194).symm.trans e194
          have h195 := (hx 195).symm.trans e195
          have h196 := (hx 196).symm.trans e196
          have h197 := (hx 197).symm.trans e197
          have h198 := (hx 198).symm.trans e198
          have h199 := (hx 199).symm.trans e199
          have ht' : t = #[x 0, x 1, x 2, x 3, x 4, x 5, x 6, x 7, x 8, x 9, x 10, x 11, x 12, x 13, x 14, x 15, x 16, x 17, x 18, x 19, x 20, x 21, x 22, x 23, x 24, x 25, x 26, x 27, x 28, x 29, x 30, x 31, x 32, x 33, x 34, x 35, x 36, x 37, x 38, x 39, x 40, x 41, x 42, x 43, x 44, x 45, x 46, x 47, x 48, x 49, x 50, x 51, x 52, x 53, x 54, x 55, x 56, x 57, x 58, x 59, x 60, x 61, x 62, x 63, x 64, x 65, x 66, x 67, x 68, x 69, x 70, x 71, x 72, x 73, x 74, x 75, x 76, x 77, x 78, x 79, x 80, x 81, x 82, x 83, x 84, x 85, x 86, x 87, x 88, x 89, x 90, x 91, x 92, x 93, x 94, x 95, x 96, x 97, x 98, x 99, x 100, x 101, x 102, x 103, x 104, x 105, x 106, x 107, x 108, x 109, x 110, x 111, x 112, x 113, x 114, x 115, x 116, x 117, x 118, x 119, x 120, x 121, x 122, x 123, x 124, x 125, x 126, x 127, x 128, x 129, x 130, x 131, x 132, x 133, x 134, x 135, x 136, x 137, x 138, x 139, x 140, x 141, x 142, x 143, x 144, x 145, x 146, x 147, x 148, x 149, x 150, x 151, x 152, x 153, x 154, x 155, x 156, x 157, x 158, x 159, x 160, x 161, x 162, x 163, x 164, x 165, x 166, x 167, x 168, x 169, x 170, x 171, x 172, x 173, x 174, x 175, x 176, x 177, x 178, x 179, x 180, x 181, x 182, x 183, x 184, x 185, x 186, x 187, x 188, x 189, x 190, x 191, x 192, x 193, x 194, x 195, x 196, x 197, x 198, x 199] := frame_lit t 200 hsz x hx
          clear hx hsz hz e178 e0 e1 e2 e3 e4 e5 e6 e7 e8 e9 e10 e11 e12 e13 e14 e15 e16 e17 e18 e19 e20 e21 e22 e23 e24 e25 e26 e27 e28 e29 e30 e31 e32 e33 e34 e35 e36 e37 e38 e39 e40 e41 e42 e43 e44 e45 e46 e47 e48 e49 e50 e51 e52 e53 e54 e55 e56 e57 e58 e59 e60 e61 e62 e63 e64 e65 e66 e67 e68 e69 e70 e71 e72 e73 e74 e75 e76 e77 e78 e79 e80 e81 e82 e83 e84 e85 e86 e87 e88 e89 e90 e91 e92 e93 e94 e95 e96 e97 e98 e99 e100 e101 e102 e103 e104 e105 e106 e107 e108 e109 e110 e111 e112 e113 e114 e115 e116 e117 e118 e119 e120 e121 e122 e123 e124 e125 e126 e127 e128 e129 e130 e131 e132 e133 e134 e135 e136 e137 e138 e139 e140 e141 e142 e143 e144 e145 e146 e147 e148 e149 e150 e151 e152 e153 e154 e155 e156 e157 e158 e159 e160 e161 e162 e163 e164 e165 e166 e167 e168 e169 e170 e171 e179 e180 e181 e182 e183 e184 e185 e186 e187 e188 e189 e190 e191 e192 e193 e194 e195 e196 e197 e198 e199
          subst ht'
          dsimp only
          rw [h178, h0, h1, h2, h3, h4, h5, h6, h7, h8, h9, h10, h11, h12, h13, h14, h15, h16, h17, h18, h19, h20, h21, h22, h23, h24, h25, h26, h27, h28, h29, h30, h31, h32, h33, h34, h35, h36, h37, h38, h39, h40, h41, h42, h43, h44, h45, h46, h47, h48, h49, h50, h51, h52, h53, h54, h55, h56, h57, h58, h59, h60, h61, h62, h63, h64, h65, h66, h67, h68, h69, h70, h71, h72, h73, h74, h75, h76, h77, h78, h79, h80, h81, h82, h83, h84, h85, h86, h87, h88, h89, h90, h91, h92, h93, h94, h95, h96, h97, h98, h99, h100, h101, h102, h103, h104, h105, h106, h107, h108, h109, h110, h111, h112, h113, h114, h115, h116, h117, h118, h119, h120, h121, h122, h123, h124, h125, h126, h127, h128, h129, h130, h131, h132, h133, h134, h135, h136, h137, h138, h139, h140, h141, h142, h143, h144, h145, h146, h147, h148, h149, h150, h151, h152, h153, h154, h155, h156, h157, h158, h159, h160, h161, h162, h163, h164, h165, h166, h167, h168, h169, h170, h171, h179, h180, h181, h182, h183, h184, h185, h186, h187, h188, h189, h190, h191, h192, h193, h194, h195, h196, h197, h198, h199]
          clear h178 h0 h1 h2 h3 h4 h5 h6 h7 h8 h9 h10 h11 h12 h13 h14 h15 h16 h17 h18 h19 h20 h21 h22 h23 h24 h25 h26 h27 h28 h29 h30 h31 h32 h33 h34 h35 h36 h37 h38 h39 h40 h41 h42 h43 h44 h45 h46 h47 h48 h49 h50 h51 h52 h53 h54 h55 h56 h57 h58 h59 h60 h61 h62 h63 h64 h65 h66 h67 h68 h69 h70 h71 h72 h73 h74 h75 h76 h77 h78 h79 h80 h81 h82 h83 h84 h85 h86 h87 h88 h89 h90 h91 h92 h93 h94 h95 h96 h97 h98 h99 h100 h101 h102 h103 h104 h105 h106 h107 h108 h109 h110 h111 h112 h113 h114 h115 h116 h117 h118 h119 h120 h121 h122 h123 h124 h125 h126 h127 h128 h129 h130 h131 h132 h133 h134 h135 h136 h137 h138 h139 h140 h141 h142 h143 h144 h145 h146 h147 h148 h149 h150 h151 h152 h153 h154 h155 h156 h157 h158 h159 h160 h161 h162 h163 h164 h165 h166 h167 h168 h169 h170 h171 h179 h180 h181 h182 h183 h184 h185 h186 h187 h188 h189 h190 h191 h192 h193 h194 h195 h196 h197 h198 h199
          have hb := from_drew hS
          replace hB := hB.trans (hb.mono hB.size)
          replace hY := hY.later hb
          replace hX := hX.later hb
          replace hI := hI.later hb
          replace hry := hry.later hb
          clear hS hb
          go_wp2
          go_roundw
          case rel => exact ⟨k + 1, by go_num, by omega, hB, hY, hX, hI, hry⟩
          case measure => simp [intOf]; omega
        · have d3 : decide (k < yF.E.length) = false := by simpa using hlt
          have d3' : decide ((k : Int) < (yF.E.length : Int)) = false := by simp; omega
          go_wp2
          go_ret
          exact ⟨rfl, hB⟩

end Go.Proofs.YtbghpkdkfbpmeaaGreat
/-
  FaultKinds answers true for every input, and leaves its arguments as they were. No condition.
-/
namespace Go.Proofs.YtbghpkdkfbpmeaaGreat
open Go.ChangeShapes Go.WideShapes Go.ChangeAt Go.RowKit Plait
set_option maxRecDepth 100000
open Go.ChangeMaps (open_string shut_string)
set_option linter.unusedVariables false

set_option maxRecDepth 100000 in
theorem faultKinds_lifted (os : Os) (started : os.Started) (H : Type) (enc : TypeId × Value → H) :
    ReturnsInHanded {} Tryz.checked os 4 .any (Rows.faultKindsSpec.pre6 enc Tryz.prog Tryz.f4 Rows.faultKindsRow.domain false) (Rows.faultKindsSpec.post enc Tryz.prog Tryz.f4 false true false false) := by
  refine returnsInHanded_of_change (C := Tryz.checked) own started (by kernel_rfl) Tryz.func4
    (ChangeSpec.witness6 (enc := enc) (C := Tryz.checked) false ⟨#[], #[.agg #[.int .i64 0, .int .i64 0, .int .i64 0, .int .i64 0, .int .i64 0, .slice none 0 0], .int .i64 0, .int .i64 0, .slice none 0 0, .agg #[.int .i64 0, .int .i64 0, .int .i64 0, .int .i64 0, .int .i64 0, .slice none 0 0], .slice none 0 0], []⟩ 8 (by kernel_rfl) (by kernel_rfl) (by kernel_rfl) (by kernel_rfl)) ?_
  intro W base args ds gs before hval0 hW hcnd _
  have hval : ∀ (j : Nat) t v, Tryz.f4.params[j]? = some t → args[j]? = some v → Value.okWide Tryz.prog W .any base t v := hval0
  have hW' := hW
  obtain ⟨p, q, hA0, hV, rfl, hfz, hnd⟩ := hW
  have hA : DataW.TrodAll enc Tryz.prog W 0 (fun _ => true) true Tryz.f4.params.toList args.toList ds p := hA0
  rw [Tryz.params4] at hA hval
  obtain ⟨v0, vs0, d0, ds0, p0, q0, hargs, rfl, rfl, h0, r0⟩ := trodAll_cons hA
  obtain ⟨v1, vs1, d1, ds1, p1, q1, rfl, rfl, rfl, h1, r1⟩ := trodAll_cons r0
  obtain ⟨v2, vs2, d2, ds2, p2, q2, rfl, rfl, rfl, h2, r2⟩ := trodAll_cons r1
  obtain ⟨v3, vs3, d3, ds3, p3, q3, rfl, rfl, rfl, h3, r3⟩ := trodAll_cons r2
  obtain ⟨v4, vs4, d4, ds4, p4, q4, rfl, rfl, rfl, h4, r4⟩ := trodAll_cons r3
  obtain ⟨v5, vs5, d5, ds5, p5, q5, rfl, rfl, rfl, h5, r5⟩ := trodAll_cons r4
  obtain ⟨rfl, rfl, rfl⟩ := trodAll_nil r5
  obtain rfl : args = #[v0, v1, v2, v3, v4, v5] := by cases args; simp_all
  obtain ⟨rfl, rfl⟩ := trodVars_none hV
  have k0 := h0
  have lt0 : ∀ x ∈ p0, x.block < W.heap.size := by obtain ⟨m, hm⟩ := k0; exact DataW.trod_lt m _ _ _ hm
  obtain ⟨c0, a0, cap0, rfl, w0, i0a, i0b, i0c, i0d, i0e⟩ := open_conf (hval 0 24 v0 rfl rfl) h0
  obtain ⟨a1, rfl, rfl, rfl, w1⟩ := open_int Tryz.underlying3 (hval 1 3 v1 rfl rfl) h1
  obtain ⟨a2, rfl, rfl, rfl, w2⟩ := open_int Tryz.underlying3 (hval 2 3 v2 rfl rfl) h2
  have k3 := h3
  have lt3 : ∀ x ∈ p3, x.block < W.heap.size := by obtain ⟨m, hm⟩ := k3; exact DataW.trod_lt m _ _ _ hm
  obtain ⟨a3, len3, cap3, rfl⟩ := okWide_slice Tryz.underlying22 (hval 3 22 v3 rfl rfl)
  obtain ⟨z3, e3, w3⟩ : ∃ zs : List Int, len3 = zs.length ∧ Row W a3 zs := by
    obtain ⟨fuel, hf⟩ := h3
    rcases open_ints Tryz.underlying22 Tryz.underlying3 (by kernel_rfl) hf with ⟨hcs, _⟩ | ⟨x, l, c, zs, hcs, _, hl, hm, hz, _, hcell, hwz⟩
    · simp [Value.cells] at hcs
      obtain ⟨rfl, rfl, rfl⟩ := hcs
      exact row_nil W
    · simp [Value.cells] at hcs
      obtain ⟨rfl, rfl, rfl⟩ := hcs
      exact row_of hl hm (by rw [hz]; split <;> omega) hcell hwz
  subst e3
  have k4 := h4
  have lt4 : ∀ x ∈ p4, x.block < W.heap.size := by obtain ⟨m, hm⟩ := k4; exact DataW.trod_lt m _ _ _ hm
  obtain ⟨c4, a4, cap4, rfl, w4, i4a, i4b, i4c, i4d, i4e⟩ := open_frame (hval 4 32 v4 rfl rfl) h4
  have k5 := h5
  have lt5 : ∀ x ∈ p5, x.block < W.heap.size := by obtain ⟨m, hm⟩ := k5; exact DataW.trod_lt m _ _ _ hm
  obtain ⟨a5, len5, cap5, rfl⟩ := okWide_slice Tryz.underlying22 (hval 5 22 v5 rfl rfl)
  obtain ⟨z5, e5, w5⟩ : ∃ zs : List Int, len5 = zs.length ∧ Row W a5 zs := by
    obtain ⟨fuel, hf⟩ := h5
    rcases open_ints Tryz.underlying22 Tryz.underlying3 (by kernel_rfl) hf with ⟨hcs, _⟩ | ⟨x, l, c, zs, hcs, _, hl, hm, hz, _, hcell, hwz⟩
    · simp [Value.cells] at hcs
      obtain ⟨rfl, rfl, rfl⟩ := hcs
      exact row_nil W
    · simp [Value.cells] at hcs
      obtain ⟨rfl, rfl, rfl⟩ := hcs
      exact row_of hl hm (by rw [hz]; split <;> omega) hcell hwz
  subst e5
  clear hA0 hval0
  refine (faultKinds_walk c0 a0 cap0 a1 a2 a3 z3 cap3 c4 a4 cap4 a5 z5 cap5 W w0 i0a i0b i0c i0d i0e (wf_lo w1) (wf_hi w1) (wf_lo w2) (wf_hi w2) w3 w4 i4a i4b i4c i4d i4e w5).mono fun e W' ⟨he, bel⟩ => ?_
  subst he
  exact ⟨_, rfl, _, _, _, [], _, [], hW', trodAll_mk1 (shut_bool Tryz.underlying4 _), (trodAll_cons_mk (Below.trod laidOut (by kernel_rfl) (of_decide_eq_true (by kernel_rfl)) k0 bel lt0) (trodAll_cons_mk (shut_int Tryz.underlying3 w1) (trodAll_cons_mk (shut_int Tryz.underlying3 w2) (trodAll_cons_mk (Below.trod laidOut (by kernel_rfl) (of_decide_eq_true (by kernel_rfl)) k3 bel lt3) (trodAll_cons_mk (Below.trod laidOut (by kernel_rfl) (of_decide_eq_true (by kernel_rfl)) k4 bel lt4) (trodAll_cons_mk (Below.trod laidOut (by kernel_rfl) (of_decide_eq_true (by kernel_rfl)) k5 bel lt5) trodAll_mk0)))))), rfl, bel.frame _, fun h => by cases h⟩

theorem faultKinds_over : Rows.faultKindsRow.holds Tryz.pinned (OpenSpec.ofChange Rows.faultKindsSpec) :=
  OpenClaim.holds_of_wide 4 Tryz.f4 rfl rfl rfl rfl rfl rfl rfl ⟨rfl, rfl, rfl, rfl, rfl⟩ rfl rfl rfl rfl rfl (by kernel_rfl) Tryz.func4 (by kernel_rfl)
    (of_decide_eq_true (by kernel_rfl)) (by unfold Func.isWrapper; first | (rw [if_pos (by decide +kernel)]; kernel_rfl) | (rw [if_neg (by decide +kernel)]; exact ⟨rfl, rfl⟩))
    (fun os started H enc _ => faultKinds_lifted os started H enc)

theorem faultKinds_holds : Rows.FaultKindsSaid := faultKinds_over
#print axioms faultKinds_holds
end Go.Proofs.YtbghpkdkfbpmeaaGreat
