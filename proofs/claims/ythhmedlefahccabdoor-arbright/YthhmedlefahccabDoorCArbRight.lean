/-
  ArbRight answers true for every input, and leaves its arguments as they were; the package's table of bounds is tied to the program's text. No condition.
-/
import Derived.Test.YthhmedlefahccabDoorK13
import Derived.Test.YthhmedlefahccabDoorK9
import Derived.Test.YthhmedlefahccabDoorTie
import Derived.Test.YthhmedlefahccabDoorCards
/-
  ArbRight's walk.
-/
namespace Go.Proofs.YthhmedlefahccabDoor
open Go.RowKit Plait
set_option maxRecDepth 100000
set_option linter.unusedVariables false
set_option linter.unusedSimpArgs false

/-- What holds while the texts are looked at. -/
structure RiM (d : Cf) (da : Option Addr) (dc db gb lb : Nat) (fx : Fr) (ga : Option Addr) (gc : Nat) (ls : Array Value) (w W : World) : Prop where
  hB : Below w.heap.size w W
  hD : Blk W db 24 (confBox d da dc)
  hrd : Row W da d.P
  hX : Blk W gb 29 (frBox fx ga gc)
  hL : Blk W lb 9 ls
theorem RiM.later {d : Cf} {da : Option Addr} {dc db gb lb : Nat} {fx : Fr} {ga : Option Addr} {gc : Nat} {ls : Array Value} {w W W' : World} (h : RiM d da dc db gb lb fx ga gc ls w W) (hb : Below W.heap.size W W') : RiM d da dc db gb lb fx ga gc ls w W' :=
  ⟨h.hB.trans (hb.mono h.hB.size), h.hD.later hb, h.hrd.later hb, h.hX.later hb, h.hL.later hb⟩
def RiI (d : Cf) (da : Option Addr) (dc db gb lb : Nat) (fx : Fr) (ga : Option Addr) (gc : Nat) (ls : Array Value) (w : World) (i : Value) (W : World) : Prop :=
  ∃ k : Nat, k ≤ 4 ∧ i = .int .i64 k ∧ RiM d da dc db gb lb fx ga gc ls w W
def RiJ (d : Cf) (da : Option Addr) (dc db gb lb : Nat) (fx : Fr) (ga : Option Addr) (gc : Nat) (ls : Array Value) (w : World) (j : Value) (W : World) : Prop :=
  (j = .int .i64 0 ∨ j = .int .i64 1 ∨ j = .int .i64 2) ∧ RiM d da dc db gb lb fx ga gc ls w W
theorem ls_four {W : World} {lb : Nat} {t : TypeId} {t0 t1 t2 t3 : List UInt8} (n : Nat) (hn : n < 4) (l0 : t0.length ≤ 1048576) (l1 : t1.length ≤ 1048576) (l2 : t2.length ≤ 1048576) (l3 : t3.length ≤ 1048576) :
    ∃ u : List UInt8, u.length ≤ 1048576 ∧ ∀ W, Blk W lb t #[.string ⟨t0.toArray⟩, .string ⟨t1.toArray⟩, .string ⟨t2.toArray⟩, .string ⟨t3.toArray⟩] → W.cell? ⟨lb, n, none⟩ = some (.string ⟨u.toArray⟩) := by
  rcases (by omega : n = 0 ∨ n = 1 ∨ n = 2 ∨ n = 3) with rfl | rfl | rfl | rfl
  · exact ⟨t0, l0, fun W h => h.at 0⟩
  · exact ⟨t1, l1, fun W h => h.at 1⟩
  · exact ⟨t2, l2, fun W h => h.at 2⟩
  · exact ⟨t3, l3, fun W h => h.at 3⟩

/-- What is made ready of the frame: it may be, and lies boxed at gb. -/
def RiP (d : Cf) (da : Option Addr) (dc db gb : Nat) (ga : Option Addr) (gc : Nat) (w W : World) : Prop :=
  ∃ fx : Fr, fx.Ok d ∧ Below w.heap.size w W ∧ Blk W db 24 (confBox d da dc) ∧ Row W da d.P ∧ Blk W gb 29 (frBox fx ga gc) ∧ RowT W ga fx.E


set_option maxHeartbeats 3200000 in
theorem arbRight_walk (c : Cf) (a : Option Addr) (cap : Nat) (f : Fr) (fa : Option Addr) (fc : Nat) (na : Option Addr) (ns : List Int) (nc : Nat) (rd sl at0 : Int) (ma : Option Addr) (ms : List Int) (mc : Nat) (raw : List UInt8) (w : World) (hbd : Bnds w) (hrow : Row w a c.P) (iN : inI c.N) (iP : inI c.Pi) (iE : inI c.E) (iG : inI c.G) (iF : inI c.F)
    (hfE : RowT w fa f.E) (iK : inI f.K) (iR : inI f.R) (iS : inI f.S) (iQ : inI f.P.K) (iV : inI f.P.V) (hns : Row w na ns) (r1 : -9223372036854775808 ≤ rd) (r2 : rd ≤ 9223372036854775807) (s1 : -9223372036854775808 ≤ sl) (s2 : sl ≤ 9223372036854775807) (o1 : -9223372036854775808 ≤ at0) (o2 : at0 ≤ 9223372036854775807) (hms : Row w ma ms) (hraw : raw.length ≤ 9223372036854775807) :
    Calls Tryd.prog 3 #[.agg #[.int .i64 c.N, .int .i64 c.Pi, .int .i64 c.E, .int .i64 c.G, .int .i64 c.F, .slice a c.P.length cap], .agg #[.int .i64 f.K, .int .i64 f.R, .int .i64 f.S, .int .i64 f.P.K, .int .i64 f.P.V, .slice fa f.E.length fc], .slice na ns.length nc, .int .i64 rd, .int .i64 sl, .int .i64 at0, .slice ma ms.length mc, .string ⟨raw.toArray⟩] w fun e w' => e = .returned (.bool true) ∧ Below w.heap.size w w' := by
  by_cases hr2 : raw.length ≤ 200
  · have dR : decide (200 < (raw.length : Int)) = false := decide_eq_false (by omega)
    have hB : Below w.heap.size w ((w.alloc (.cells #[.int .i64 c.N, .int .i64 c.Pi, .int .i64 c.E, .int .i64 c.G, .int .i64 c.F, .slice a c.P.length cap] 24)).alloc (.cells #[.int .i64 f.K, .int .i64 f.R, .int .i64 f.S, .int .i64 f.P.K, .int .i64 f.P.V, .slice fa f.E.length fc] 29)) := (alloc_below w _).alloc (by simp) _
    have hC : Blk ((w.alloc (.cells #[.int .i64 c.N, .int .i64 c.Pi, .int .i64 c.E, .int .i64 c.G, .int .i64 c.F, .slice a c.P.length cap] 24)).alloc (.cells #[.int .i64 f.K, .int .i64 f.R, .int .i64 f.S, .int .i64 f.P.K, .int .i64 f.P.V, .slice fa f.E.length fc] 29)) w.heap.size 24 (confBox c a cap) := (Blk.new w _ _).alloc _
    have hF : Blk ((w.alloc (.cells #[.int .i64 c.N, .int .i64 c.Pi, .int .i64 c.E, .int .i64 c.G, .int .i64 c.F, .slice a c.P.length cap] 24)).alloc (.cells #[.int .i64 f.K, .int .i64 f.R, .int .i64 f.S, .int .i64 f.P.K, .int .i64 f.P.V, .slice fa f.E.length fc] 29)) (w.heap.size + 1) 29 (frBox f fa fc) := Blk.newAt _ _ (by simp)
    go_enter Tryd.func3, Tryd.ntmps3
    go_upto_region 1 with fail
    generalize ((w.alloc (.cells #[.int .i64 c.N, .int .i64 c.Pi, .int .i64 c.E, .int .i64 c.G, .int .i64 c.F, .slice a c.P.length cap] 24)).alloc (.cells #[.int .i64 f.K, .int .i64 f.R, .int .i64 f.S, .int .i64 f.P.K, .int .i64 f.P.V, .slice fa f.E.length fc] 29)) = w1 at *
    go_wp2_with fail
    refine (known10_any _ (hbd.later hB)).mono ?_
    rintro e wn ⟨rfl, hb⟩
    replace hB := hB.trans (hb.mono hB.size)
    replace hC := hC.later hb
    replace hF := hF.later hb
    clear hb
    have qC := hC.at
    unfold confBox at qC
    go_wp2_with fail
    refine (make_any c a cap _ (hrow.later hB)).mono ?_
    rintro e wm ⟨da, dc, rfl, hrd, hfd, hb⟩
    replace hB := hB.trans (hb.mono hB.size)
    replace hF := hF.later hb
    clear hb qC hC hfd
    have hok := makeC_ok c
    generalize makeC c = d at *
    have hD : Blk (wm.alloc (.cells #[.int .i64 d.N, .int .i64 d.Pi, .int .i64 d.E, .int .i64 d.G, .int .i64 d.F, .slice da d.P.length dc] 24)) wm.heap.size 24 (confBox d da dc) := Blk.new wm _ _
    replace hB := hB.alloc hB.size (.cells #[.int .i64 d.N, .int .i64 d.Pi, .int .i64 d.E, .int .i64 d.G, .int .i64 d.F, .slice da d.P.length dc] 24)
    replace hF := hF.alloc (.cells #[.int .i64 d.N, .int .i64 d.Pi, .int .i64 d.E, .int .i64 d.G, .int .i64 d.F, .slice da d.P.length dc] 24)
    replace hrd := hrd.alloc (.cells #[.int .i64 d.N, .int .i64 d.Pi, .int .i64 d.E, .int .i64 d.G, .int .i64 d.F, .slice da d.P.length dc] 24)
    go_upto_region 6 with fail
    generalize wm.alloc (.cells #[.int .i64 d.N, .int .i64 d.Pi, .int .i64 d.E, .int .i64 d.G, .int .i64 d.F, .slice da d.P.length dc] 24) = wn at *
    generalize wm.heap.size = db at *
    go_wp2_with fail
    refine (within10_any rd 200 _ (by omega) (by omega)).mono ?_
    rintro e wl ⟨rfl, rfl⟩
    have x0 := Int.emod_nonneg rd (show (200 : Int) ≠ 0 by omega)
    have x1 := Int.emod_lt_of_pos rd (show (0 : Int) < 200 by omega)
    generalize rd % 200 = r at *
    have qD := hD.at
    unfold confBox at qD
    have qF := hF.at
    unfold frBox at qF
    go_wp2_with fail
    refine (make5_any d da dc f fa fc na ns nc _ hok (hns.later hB) iK iR iS iV).mono ?_
    rintro e wm ⟨ga, gc, rfl, hrg, hfg, hb⟩
    replace hB := hB.trans (hb.mono hB.size)
    replace hF := hF.later hb
    replace hD := hD.later hb
    replace hrd := hrd.later hb
    clear hb qD qF hfg
    have hokg := makeF_ok d f ns hok
    generalize makeF d f ns = g at *
    have hG : Blk (wm.alloc (.cells #[.int .i64 g.K, .int .i64 g.R, .int .i64 g.S, .int .i64 g.P.K, .int .i64 g.P.V, .slice ga g.E.length gc] 29)) wm.heap.size 29 (frBox g ga gc) := Blk.new wm _ _
    have hgn := hrg.ltT
    have hdn := hrd.ltR
    have hdb := hD.lt
    have hwg := hB.size
    replace hB := hB.alloc hB.size (.cells #[.int .i64 g.K, .int .i64 g.R, .int .i64 g.S, .int .i64 g.P.K, .int .i64 g.P.V, .slice ga g.E.length gc] 29)
    replace hF := hF.alloc (.cells #[.int .i64 g.K, .int .i64 g.R, .int .i64 g.S, .int .i64 g.P.K, .int .i64 g.P.V, .slice ga g.E.length gc] 29)
    replace hD := hD.alloc (.cells #[.int .i64 g.K, .int .i64 g.R, .int .i64 g.S, .int .i64 g.P.K, .int .i64 g.P.V, .slice ga g.E.length gc] 29)
    replace hrd := hrd.alloc (.cells #[.int .i64 g.K, .int .i64 g.R, .int .i64 g.S, .int .i64 g.P.K, .int .i64 g.P.V, .slice ga g.E.length gc] 29)
    replace hrg := hrg.alloc (.cells #[.int .i64 g.K, .int .i64 g.R, .int .i64 g.S, .int .i64 g.P.K, .int .i64 g.P.V, .slice ga g.E.length gc] 29)
    go_upto_region 8 with fail
    generalize wm.alloc (.cells #[.int .i64 g.K, .int .i64 g.R, .int .i64 g.S, .int .i64 g.P.K, .int .i64 g.P.V, .slice ga g.E.length gc] 29) = wn at *
    generalize wm.heap.size = gb at *
    go_wp2_with fail
    refine (within10_any at0 3 _ (by omega) (by omega)).mono ?_
    rintro e wl ⟨rfl, rfl⟩
    have y0 := Int.emod_nonneg at0 (show (3 : Int) ≠ 0 by omega)
    generalize at0 % 3 = z at *
    go_upto_if 44 with fail
    go_cut [48] (fun s wx => RiP d da dc db gb ga gc w wx)
    case first =>
      by_cases hz : 0 < z
      · have dz : decide (0 < z) = true := decide_eq_true hz
        have qD := hD.at
        unfold confBox at qD
        have qG := hG.at
        unfold frBox at qG
        go_wp2_with fail
        refine (rwire_any d da dc r _ hok (by omega) (by omega)).mono ?_
        rintro e wq ⟨rfl, hb⟩
        (try clear qD)
        (try clear qG)
        replace hB := hB.trans (hb.mono hB.size)
        replace hD := hD.later hb
        replace hrd := hrd.later hb
        replace hG := hG.later hb
        replace hrg := hrg.later hb
        have qD := hD.at
        unfold confBox at qD
        have qG := hG.at
        unfold frBox at qG
        clear hb
        obtain ⟨R0, R1⟩ := wireI_range d r
        have fG := hG.frozen
        have HP := Lib.hid (show RiP d da dc db gb ga gc w (wq.setCell ⟨gb, 1, none⟩ (.int .i64 (wireI d r))) from ⟨{ g with R := wireI d r }, okR hokg _ R0 R1, hB.setCell (p := ⟨gb, 1, none⟩) hwg _, hD.far (p := ⟨gb, 1, none⟩) (by show db ≠ gb; omega) _, hrd.farR gb 1 _ (hdn.imp id fun q y e => by have := q y e; omega), hG.set 1 _, hrg.far2 gb 1 _ (hgn.imp id fun q y e => by have := q y e; omega)⟩)
        go_wp2_with fail
        go_meet
        exact HP.out
      · have dz : decide (0 < z) = false := decide_eq_false hz
        have HP := Lib.hid (show RiP d da dc db gb ga gc w wn from ⟨g, hokg, hB, hD, hrd, hG, hrg⟩)
        go_wp2_with fail
        go_meet
        exact HP.out
    case rest =>
      clear hB hD hrd hG hrg hokg hgn hdn hdb hwg
      obtain ⟨fx, hokx, hB, hD, hrd, hX, hrx⟩ := hcut
      have qD := hD.at
      unfold confBox at qD
      have qX := hX.at
      unfold frBox at qX
      go_wp2_with fail
      refine (rText_ok d da dc fx ga gc _ hok hokx hrx).mono ?_
      rintro e wt ⟨rfl, hb⟩
      replace hB := hB.trans (hb.mono hB.size)
      replace hD := hD.later hb
      replace hrd := hrd.later hb
      replace hX := hX.later hb
      replace hrx := hrx.later hb
      clear hb qD qX
      have hl51 := textF_length fx
      have hsm := (ok_small hok hokx).2.2.2.2.2
      generalize textF fx = t at *
      have lt : t.length ≤ 1048576 := by omega
      have lpos : 0 < (t.length : Int) := by omega
      have lbd : (t.length : Int) ≤ 1000000 := by omega
      clear hl51 hsm
      go_wp2_with fail
      refine (within10_any at0 (t.length : Int) _ lpos (by omega)).mono ?_
      rintro e wl ⟨rfl, rfl⟩
      generalize at0 % (t.length : Int) = q at *
      go_wp2_with fail
      refine (rturn_any t q _ (by omega)).mono ?_
      rintro e wt ⟨rfl, hb⟩
      replace hB := hB.trans (hb.mono hB.size)
      replace hD := hD.later hb
      replace hrd := hrd.later hb
      replace hX := hX.later hb
      replace hrx := hrx.later hb
      clear hb
      have lu : (turn t q).length ≤ 1048576 := by rw [turn_length]; exact lt
      go_wp2_with fail
      refine (text_any ma ms mc _ (hms.later hB)).mono ?_
      rintro e wt ⟨rfl, hb⟩
      replace hB := hB.trans (hb.mono hB.size)
      replace hD := hD.later hb
      replace hrd := hrd.later hb
      replace hX := hX.later hb
      replace hrx := hrx.later hb
      clear hb
      have lm : (textL ms).length ≤ 1048576 := by unfold textL; rw [List.length_map, List.length_take]; omega
      generalize turn t q = tt at *
      generalize textL ms = tm at *
      clear lpos lbd
      have lr : raw.length ≤ 1048576 := by omega
      go_upto_region 12 with fail
      have hb := alloc_below wt (.cells (#[.string ⟨t.toArray⟩, .string ⟨tt.toArray⟩, .string ⟨tm.toArray⟩, .string ⟨raw.toArray⟩]) 9)
      have hM : RiM d da dc db gb wt.heap.size fx ga gc (#[.string ⟨t.toArray⟩, .string ⟨tt.toArray⟩, .string ⟨tm.toArray⟩, .string ⟨raw.toArray⟩]) w (wt.alloc (.cells (#[.string ⟨t.toArray⟩, .string ⟨tt.toArray⟩, .string ⟨tm.toArray⟩, .string ⟨raw.toArray⟩]) 9)) := ⟨hB.trans (hb.mono hB.size), hD.later hb, hrd.later hb, hX.later hb, Blk.new wt _ _⟩
      clear hB hD hrd hX hrx hb
      generalize wt.alloc (.cells (#[.string ⟨t.toArray⟩, .string ⟨tt.toArray⟩, .string ⟨tm.toArray⟩, .string ⟨raw.toArray⟩]) 9) = w8 at *
      generalize wt.heap.size = lb at *
      have n6 := hok.n6; have n12 := hok.n12; have nl := hok.len
      have sn0 : 0 < slotsI d := by unfold slotsI; omega
      have sn1 : slotsI d ≤ 1000000 := by unfold slotsI; omega
      have HRd := Lib.hid (fun (u : List UInt8) (p : Int) (h : u.length ≤ 1048576) (W : World) (hb : Bnds W) (hr : Row W da d.P) => aRight_any d da dc r p u W hb hok hr (by omega) (by omega) h)
      have HRr := Lib.hid (fun (u : List UInt8) (p : Int) (h : u.length ≤ 1048576) (W : World) (hr : Row W da d.P) => rRight_any d da dc r p u W hok hr (by omega) (by omega) h)
      have HSl := Lib.hid (fun W => rslots_any d da dc W hok)
      have HWs := Lib.hid (fun W => within10_any sl (slotsI d) W sn0 (by omega))
      clear n6 n12 nl sn0 sn1
      generalize slotsI d = sn at *
      have HST := Lib.hid (show RiI d da dc db gb lb fx ga gc (#[.string ⟨t.toArray⟩, .string ⟨tt.toArray⟩, .string ⟨tm.toArray⟩, .string ⟨raw.toArray⟩]) w (.int .i64 (0 : Nat)) w8 from ⟨0, by omega, rfl, hM⟩)
      clear hM
      go_wp2
      go_loopw [22] (fun i W => RiI d da dc db gb lb fx ga gc (#[.string ⟨t.toArray⟩, .string ⟨tt.toArray⟩, .string ⟨tm.toArray⟩, .string ⟨raw.toArray⟩]) w i W) (fun i _ => 4 - (intOf i).toNat)
      case atStart => exact HST.out
      case round =>
        clear HST
        obtain ⟨k, hk, rfl, hM⟩ := hrel
        by_cases hlt : k < 4
        · have dk : decide ((k : Int) < 4) = true := decide_eq_true (by omega)
          have k0 : (0 : Int) ≤ (k : Int) := by omega
          have k4 : (k : Int) < 4 := by omega
          obtain ⟨u, hu, hcu⟩ := ls_four (W := w) (lb := lb) (t := 9) k hlt lt lu lm lr
          have HCU := Lib.hid hcu
          have HJ := Lib.hid (show RiJ d da dc db gb lb fx ga gc (#[.string ⟨t.toArray⟩, .string ⟨tt.toArray⟩, .string ⟨tm.toArray⟩, .string ⟨raw.toArray⟩]) w (.int .i64 0) wr from ⟨.inl rfl, hM⟩)
          clear hM hcu
          go_wp2
          go_loopw [23] (fun j W => RiJ d da dc db gb lb fx ga gc (#[.string ⟨t.toArray⟩, .string ⟨tt.toArray⟩, .string ⟨tm.toArray⟩, .string ⟨raw.toArray⟩]) w j W) (fun j _ => 2 - (intOf j).toNat)
          case atStart => exact HJ.out
          case round =>
            clear HJ
            obtain ⟨hj, hM⟩ := hrel
            rcases hj with rfl | rfl | rfl
            · skip
              have hD := hM.hD
              have hX := hM.hX
              go_upto_region 18 with fail
              refine region_slots [some 71, some 72, some 73, some 74, some 75, some 76, some 77, some 78, some 79, some 80, some 24] [none, none, none, none, none, none, none, none, none, none, none] 112 11 rfl (by kernel_rfl) (by kernel_rfl) rfl rfl ?_
              apply step_fix
              · intro a W Zs hS hFm hz hd
                have h19 := hFm.old 19 rfl
                conv at h19 => rhs; whnf
                replace h19 := ev_get hFm.size h19
                refine .inl ⟨wanted_none rfl _, fun K hK => ?_⟩
                have HK := Lib.hid hK
                clear hd hFm hK
                go_simp
                exact HK.out _ _ rfl (Below.refl _ _)
              simp only [List.nil_append, List.cons_append]
              apply step_fix
              · intro a W Zs hS hFm hz hd
                have h71 := ev_get hFm.size (hd 0 71 rfl rfl)
                have hq := (hX.drew1.later hS).at
                unfold frBox at hq
                refine .inl ⟨wanted_none rfl _, fun K hK => ?_⟩
                have HK := Lib.hid hK
                clear hd hFm hK
                go_simp
                exact HK.out _ _ rfl (Below.refl _ _)
              simp only [List.nil_append, List.cons_append]
              apply step_fix
              · intro a W Zs hS hFm hz hd
                have h4 := hFm.old 4 rfl
                conv at h4 => rhs; whnf
                replace h4 := ev_get hFm.size h4
                refine .inl ⟨wanted_none rfl _, fun K hK => ?_⟩
                have HK := Lib.hid hK
                clear hd hFm hK
                go_simp
                exact HK.out _ _ rfl (Below.refl _ _)
              simp only [List.nil_append, List.cons_append]
              apply step_fix
              · intro a W Zs hS hFm hz hd
                have h17 := hFm.old 17 rfl
                conv at h17 => rhs; whnf
                replace h17 := ev_get hFm.size h17
                have hq := (hD.drew1.later hS).at
                unfold confBox at hq
                refine .inl ⟨wanted_none rfl _, fun K hK => ?_⟩
                have HK := Lib.hid hK
                clear hd hFm hK
                go_simp
                exact HK.out _ _ rfl (Below.refl _ _)
              simp only [List.nil_append, List.cons_append]
              apply step_fix
              · intro a W Zs hS hFm hz hd
                have h74 := ev_get hFm.size (hd 3 74 rfl rfl)
                refine .inl ⟨wanted_none rfl _, fun K hK => ?_⟩
                have HK := Lib.hid hK
                clear hd hFm hK
                go_simp
                refine (HSl.out _).mono ?_
                rintro e W' ⟨rfl, hb⟩
                exact HK.out _ _ rfl hb
              simp only [List.nil_append, List.cons_append]
              apply step_fix
              · intro a W Zs hS hFm hz hd
                have h73 := ev_get hFm.size (hd 2 73 rfl rfl)
                have h75 := ev_get hFm.size (hd 4 75 rfl rfl)
                refine .inl ⟨wanted_none rfl _, fun K hK => ?_⟩
                have HK := Lib.hid hK
                clear hd hFm hK
                go_simp
                refine (HWs.out _).mono ?_
                rintro e W' ⟨rfl, rfl⟩
                exact HK.out _ _ rfl (Below.refl _ _)
              simp only [List.nil_append, List.cons_append]
              apply step_blk
              · intro a W Zs hS hFm hz hd
                have h72 := ev_get hFm.size (hd 1 72 rfl rfl)
                have h76 := ev_get hFm.size (hd 5 76 rfl rfl)
                refine .inl ⟨wanted_none rfl _, fun K hK => ?_⟩
                have HK := Lib.hid hK
                clear hd hFm hK
                go_simp
                exact HK.out _ _ ⟨_, rfl, Blk.new _ _ _, .inr (.inl ⟨Nat.le_refl _, by simp⟩)⟩ (alloc_below _ _)
              simp only [List.nil_append, List.cons_append]
              apply step_fix
              · intro a W Zs hS hFm hz hd
                have h23 := hFm.old 23 rfl
                conv at h23 => rhs; whnf
                replace h23 := ev_get hFm.size h23
                refine .inl ⟨wanted_none rfl _, fun K hK => ?_⟩
                have HK := Lib.hid hK
                clear hd hFm hK
                go_simp
                exact HK.out _ _ rfl (Below.refl _ _)
              simp only [List.nil_append, List.cons_append]
              apply step_ptr
              · intro a W Zs hS hFm hz hd
                obtain ⟨b77, e77, q77, f77⟩ := hd 6 77 rfl rfl
                have h77 := ev_get hFm.size e77
                have h78 := ev_get hFm.size (hd 7 78 rfl rfl)
                refine .inl ⟨wanted_none rfl _, fun K hK => ?_⟩
                have HK := Lib.hid hK
                clear hd hFm hK
                go_simp
                exact HK.out _ _ ⟨b77, rfl, q77, f77.imp id (foot_dep 6 rfl rfl rfl _)⟩ (Below.refl _ _)
              simp only [List.nil_append, List.cons_append]
              apply step_fix
              · intro a W Zs hS hFm hz hd
                obtain ⟨b79, e79, q79, f79⟩ := hd 8 79 rfl rfl
                have h79 := ev_get hFm.size e79
                have hq := q79.at
                refine .inl ⟨wanted_none rfl _, fun K hK => ?_⟩
                have HK := Lib.hid hK
                clear hd hFm hK
                go_simp
                exact HK.out _ _ rfl (Below.refl _ _)
              simp only [List.nil_append, List.cons_append]
              apply step_fix
              · intro a W Zs hS hFm hz hd
                have h80 := ev_get hFm.size (hd 9 80 rfl rfl)
                refine .inl ⟨wanted_none rfl _, fun K hK => ?_⟩
                have HK := Lib.hid hK
                clear hd hFm hK
                go_simp
                exact HK.out _ _ rfl (Below.refl _ _)
              simp only [List.nil_append, List.cons_append]
              intro a w5 Zs hS hFm hz hd
              have e24 := hd 10 24 (by decide) rfl
              have e0 := hFm.old 0 rfl
              conv at e0 => rhs; whnf
              have e1 := hFm.old 1 rfl
              conv at e1 => rhs; whnf
              have e2 := hFm.old 2 rfl
              conv at e2 => rhs; whnf
              have e3 := hFm.old 3 rfl
              conv at e3 => rhs; whnf
              have e4 := hFm.old 4 rfl
              conv at e4 => rhs; whnf
              have e5 := hFm.old 5 rfl
              conv at e5 => rhs; whnf
              have e6 := hFm.old 6 rfl
              conv at e6 => rhs; whnf
              have e7 := hFm.old 7 rfl
              conv at e7 => rhs; whnf
              have e8 := hFm.old 8 rfl
              conv at e8 => rhs; whnf
              have e9 := hFm.old 9 rfl
              conv at e9 => rhs; whnf
              have e10 := hFm.old 10 rfl
              conv at e10 => rhs; whnf
              have e11 := hFm.old 11 rfl
              conv at e11 => rhs; whnf
              have e12 := hFm.old 12 rfl
              conv at e12 => rhs; whnf
              have e13 := hFm.old 13 rfl
              conv at e13 => rhs; whnf
              have e14 := hFm.old 14 rfl
              conv at e14 => rhs; whnf
              have e15 := hFm.old 15 rfl
              conv at e15 => rhs; whnf
              have e16 := hFm.old 16 rfl
              conv at e16 => rhs; whnf
              have e17 := hFm.old 17 rfl
              conv at e17 => rhs; whnf
              have e18 := hFm.old 18 rfl
              conv at e18 => rhs; whnf
              have e19 := hFm.old 19 rfl
              conv at e19 => rhs; whnf
              have e20 := hFm.old 20 rfl
              conv at e20 => rhs; whnf
              have e21 := hFm.old 21 rfl
              conv at e21 => rhs; whnf
              have e22 := hFm.old 22 rfl
              conv at e22 => rhs; whnf
              have e23 := hFm.old 23 rfl
              conv at e23 => rhs; whnf
              have e25 := hFm.old 25 rfl
              conv at e25 => rhs; whnf
              have e26 := hFm.old 26 rfl
              conv at e26 => rhs; whnf
              have e27 := hFm.old 27 rfl
              conv at e27 => rhs; whnf
              have e28 := hFm.old 28 rfl
              conv at e28 => rhs; whnf
              have e29 := hFm.old 29 rfl
              conv at e29 => rhs; whnf
              have e30 := hFm.old 30 rfl
              conv at e30 => rhs; whnf
              have e31 := hFm.old 31 rfl
              conv at e31 => rhs; whnf
              have e32 := hFm.old 32 rfl
              conv at e32 => rhs; whnf
              have e33 := hFm.old 33 rfl
              conv at e33 => rhs; whnf
              have e34 := hFm.old 34 rfl
              conv at e34 => rhs; whnf
              have e35 := hFm.old 35 rfl
              conv at e35 => rhs; whnf
              have e36 := hFm.old 36 rfl
              conv at e36 => rhs; whnf
              have e37 := hFm.old 37 rfl
              conv at e37 => rhs; whnf
              have e38 := hFm.old 38 rfl
              conv at e38 => rhs; whnf
              have e39 := hFm.old 39 rfl
              conv at e39 => rhs; whnf
              have e40 := hFm.old 40 rfl
              conv at e40 => rhs; whnf
              have e41 := hFm.old 41 rfl
              conv at e41 => rhs; whnf
              have e42 := hFm.old 42 rfl
              conv at e42 => rhs; whnf
              have e43 := hFm.old 43 rfl
              conv at e43 => rhs; whnf
              have e44 := hFm.old 44 rfl
              conv at e44 => rhs; whnf
              have e45 := hFm.old 45 rfl
              conv at e45 => rhs; whnf
              have e46 := hFm.old 46 rfl
              conv at e46 => rhs; whnf
              have e47 := hFm.old 47 rfl
              conv at e47 => rhs; whnf
              have e48 := hFm.old 48 rfl
              conv at e48 => rhs; whnf
              have e49 := hFm.old 49 rfl
              conv at e49 => rhs; whnf
              have e50 := hFm.old 50 rfl
              conv at e50 => rhs; whnf
              have e51 := hFm.old 51 rfl
              conv at e51 => rhs; whnf
              have e52 := hFm.old 52 rfl
              conv at e52 => rhs; whnf
              have e53 := hFm.old 53 rfl
              conv at e53 => rhs; whnf
              have e54 := hFm.old 54 rfl
              conv at e54 => rhs; whnf
              have e55 := hFm.old 55 rfl
              conv at e55 => rhs; whnf
              have e56 := hFm.old 56 rfl
              conv at e56 => rhs; whnf
              have e57 := hFm.old 57 rfl
              conv at e57 => rhs; whnf
              have e58 := hFm.old 58 rfl
              conv at e58 => rhs; whnf
              have e59 := hFm.old 59 rfl
              conv at e59 => rhs; whnf
              have e60 := hFm.old 60 rfl
              conv at e60 => rhs; whnf
              have e61 := hFm.old 61 rfl
              conv at e61 => rhs; whnf
              have e62 := hFm.old 62 rfl
              conv at e62 => rhs; whnf
              have e63 := hFm.old 63 rfl
              conv at e63 => rhs; whnf
              have e64 := hFm.old 64 rfl
              conv at e64 => rhs; whnf
              have e65 := hFm.old 65 rfl
              conv at e65 => rhs; whnf
              have e66 := hFm.old 66 rfl
              conv at e66 => rhs; whnf
              have e67 := hFm.old 67 rfl
              conv at e67 => rhs; whnf
              have e68 := hFm.old 68 rfl
              conv at e68 => rhs; whnf
              have e69 := hFm.old 69 rfl
              conv at e69 => rhs; whnf
              have e70 := hFm.old 70 rfl
              conv at e70 => rhs; whnf
              have e81 := hFm.old 81 rfl
              conv at e81 => rhs; whnf
              have e82 := hFm.old 82 rfl
              conv at e82 => rhs; whnf
              have e83 := hFm.old 83 rfl
              conv at e83 => rhs; whnf
              have e84 := hFm.old 84 rfl
              conv at e84 => rhs; whnf
              have e85 := hFm.old 85 rfl
              conv at e85 => rhs; whnf
              have e86 := hFm.old 86 rfl
              conv at e86 => rhs; whnf
              have e87 := hFm.old 87 rfl
              conv at e87 => rhs; whnf
              have e88 := hFm.old 88 rfl
              conv at e88 => rhs; whnf
              have e89 := hFm.old 89 rfl
              conv at e89 => rhs; whnf
              have e90 := hFm.old 90 rfl
              conv at e90 => rhs; whnf
              have e91 := hFm.old 91 rfl
              conv at e91 => rhs; whnf
              have e92 := hFm.old 92 rfl
              conv at e92 => rhs; whnf
              have e93 := hFm.old 93 rfl
              conv at e93 => rhs; whnf
              have e94 := hFm.old 94 rfl
              conv at e94 => rhs; whnf
              have e95 := hFm.old 95 rfl
              conv at e95 => rhs; whnf
              have e96 := hFm.old 96 rfl
              conv at e96 => rhs; whnf
              have e97 := hFm.old 97 rfl
              conv at e97 => rhs; whnf
              have e98 := hFm.old 98 rfl
              conv at e98 => rhs; whnf
              have e99 := hFm.old 99 rfl
              conv at e99 => rhs; whnf
              have e100 := hFm.old 100 rfl
              conv at e100 => rhs; whnf
              have e101 := hFm.old 101 rfl
              conv at e101 => rhs; whnf
              have e102 := hFm.old 102 rfl
              conv at e102 => rhs; whnf
              have e103 := hFm.old 103 rfl
              conv at e103 => rhs; whnf
              have e104 := hFm.old 104 rfl
              conv at e104 => rhs; whnf
              have e105 := hFm.old 105 rfl
              conv at e105 => rhs; whnf
              have e106 := hFm.old 106 rfl
              conv at e106 => rhs; whnf
              have e107 := hFm.old 107 rfl
              conv at e107 => rhs; whnf
              have e108 := hFm.old 108 rfl
              conv at e108 => rhs; whnf
              have e109 := hFm.old 109 rfl
              conv at e109 => rhs; whnf
              have e110 := hFm.old 110 rfl
              conv at e110 => rhs; whnf
              have e111 := hFm.old 111 rfl
              conv at e111 => rhs; whnf
              have hsz := hFm.size
              have hdf := hFm.defers
              clear hd hFm
              obtain ⟨t, df⟩ := a
              simp only at hsz hdf
              subst hdf
              obtain ⟨x, hx⟩ : ∃ x : Nat → Value, ∀ i, t.getD i undef = x i := ⟨fun i => t.getD i undef, fun _ => rfl⟩
              have h24 := (hx 24).symm.trans e24
              have h0 := (hx 0).symm.trans e0
              have h1 := (hx 1).symm.trans e1
              have h2 := (hx 2).symm.trans e2
              have h3 := (hx 3).symm.trans e3
              have h4 := (hx 4).symm.trans e4
              have h5 := (hx 5).symm.trans e5
              have h6 := (hx 6).symm.trans e6
              have h7 := (hx 7).symm.trans e7
              have h8 := (hx 8).symm.trans e8
              have h9 := (hx 9).symm.trans e9
              have h10 := (hx 10).symm.trans e10
              have h11 := (hx 11).symm.trans e11
              have h12 := (hx 12).symm.trans e12
              have h13 := (hx 13).symm.trans e13
              have h14 := (hx 14).symm.trans e14
              have h15 := (hx 15).symm.trans e15
              have h16 := (hx 16).symm.trans e16
              have h17 := (hx 17).symm.trans e17
              have h18 := (hx 18).symm.trans e18
              have h19 := (hx 19).symm.trans e19
              have h20 := (hx 20).symm.trans e20
              have h21 := (hx 21).symm.trans e21
              have h22 := (hx 22).symm.trans e22
              have h23 := (hx 23).symm.trans e23
              have h25 := (hx 25).symm.trans e25
              have h26 := (hx 26).symm.trans e26
              have h27 := (hx 27).symm.trans e27
              have h28 := (hx 28).symm.trans e28
              have h29 := (hx 29).symm.trans e29
              have h30 := (hx 30).symm.trans e30
              have h31 := (hx 31).symm.trans e31
              have h32 := (hx 32).symm.trans e32
              have h33 := (hx 33).symm.trans e33
              have h34 := (hx 34).symm.trans e34
              have h35 := (hx 35).symm.trans e35
              have h36 := (hx 36).symm.trans e36
              have h37 := (hx 37).symm.trans e37
              have h38 := (hx 38).symm.trans e38
              have h39 := (hx 39).symm.trans e39
              have h40 := (hx 40).symm.trans e40
              have h41 := (hx 41).symm.trans e41
              have h42 := (hx 42).symm.trans e42
              have h43 := (hx 43).symm.trans e43
              have h44 := (hx 44).symm.trans e44
              have h45 := (hx 45).symm.trans e45
              have h46 := (hx 46).symm.trans e46
              have h47 := (hx 47).symm.trans e47
              have h48 := (hx 48).symm.trans e48
              have h49 := (hx 49).symm.trans e49
              have h50 := (hx 50).symm.trans e50
              have h51 := (hx 51).symm.trans e51
              have h52 := (hx 52).symm.trans e52
              have h53 := (hx 53).symm.trans e53
              have h54 := (hx 54).symm.trans e54
              have h55 := (hx 55).symm.trans e55
              have h56 := (hx 56).symm.trans e56
              have h57 := (hx 57).symm.trans e57
              have h58 := (hx 58).symm.trans e58
              have h59 := (hx 59).symm.trans e59
              have h60 := (hx 60).symm.trans e60
              have h61 := (hx 61).symm.trans e61
              have h62 := (hx 62).symm.trans e62
              have h63 := (hx 63).symm.trans e63
              have h64 := (hx 64).symm.trans e64
              have h65 := (hx 65).symm.trans e65
              have h66 := (hx 66).symm.trans e66
              have h67 := (hx 67).symm.trans e67
              have h68 := (hx 68).symm.trans e68
              have h69 := (hx 69).symm.trans e69
              have h70 := (hx 70).symm.trans e70
              have h81 := (hx 81).symm.trans e81
              have h82 := (hx 82).symm.trans e82
              have h83 := (hx 83).symm.trans e83
              have h84 := (hx 84).symm.trans e84
              have h85 := (hx 85).symm.trans e85
              have h86 := (hx 86).symm.trans e86
              have h87 := (hx 87).symm.trans e87
              have h88 := (hx 88).symm.trans e88
              have h89 := (hx 89).symm.trans e89
              have h90 := (hx 90).symm.trans e90
              have h91 := (hx 91).symm.trans e91
              have h92 := (hx 92).symm.trans e92
              have h93 := (hx 93).symm.trans e93
              have h94 := (hx 94).symm.trans e94
              have h95 := (hx 95).symm.trans e95
              have h96 := (hx 96).symm.trans e96
              have h97 := (hx 97).symm.trans e97
              have h98 := (hx 98).symm.trans e98
              have h99 := (hx 99).symm.trans e99
              have h100 := (hx 100).symm.trans e100
              have h101 := (hx 101).symm.trans e101
              have h102 := (hx 102).symm.trans e102
              have h103 := (hx 103).symm.trans e103
              have h104 := (hx 104).symm.trans e104
              have h105 := (hx 105).symm.trans e105
              have h106 := (hx 106).symm.trans e106
              have h107 := (hx 107).symm.trans e107
              have h108 := (hx 108).symm.trans e108
              have h109 := (hx 109).symm.trans e109
              have h110 := (hx 110).symm.trans e110
              have h111 := (hx 111).symm.trans e111
              have ht' : t = #[x 0, x 1, x 2, x 3, x 4, x 5, x 6, x 7, x 8, x 9, x 10, x 11, x 12, x 13, x 14, x 15, x 16, x 17, x 18, x 19, x 20, x 21, x 22, x 23, x 24, x 25, x 26, x 27, x 28, x 29, x 30, x 31, x 32, x 33, x 34, x 35, x 36, x 37, x 38, x 39, x 40, x 41, x 42, x 43, x 44, x 45, x 46, x 47, x 48, x 49, x 50, x 51, x 52, x 53, x 54, x 55, x 56, x 57, x 58, x 59, x 60, x 61, x 62, x 63, x 64, x 65, x 66, x 67, x 68, x 69, x 70, x 71, x 72, x 73, x 74, x 75, x 76, x 77, x 78, x 79, x 80, x 81, x 82, x 83, x 84, x 85, x 86, x 87, x 88, x 89, x 90, x 91, x 92, x 93, x 94, x 95, x 96, x 97, x 98, x 99, x 100, x 101, x 102, x 103, x 104, x 105, x 106, x 107, x 108, x 109, x 110, x 111] := frame_lit t 112 hsz x hx
              clear hx hsz hz e24 e0 e1 e2 e3 e4 e5 e6 e7 e8 e9 e10 e11 e12 e13 e14 e15 e16 e17 e18 e19 e20 e21 e22 e23 e25 e26 e27 e28 e29 e30 e31 e32 e33 e34 e35 e36 e37 e38 e39 e40 e41 e42 e43 e44 e45 e46 e47 e48 e49 e50 e51 e52 e53 e54 e55 e56 e57 e58 e59 e60 e61 e62 e63 e64 e65 e66 e67 e68 e69 e70 e81 e82 e83 e84 e85 e86 e87 e88 e89 e90 e91 e92 e93 e94 e95 e96 e97 e98 e99 e100 e101 e102 e103 e104 e105 e106 e107 e108 e109 e110 e111
              subst ht'
              (try dsimp only)
              rw [h24, h0, h1, h2, h3, h4, h5, h6, h7, h8, h9, h10, h11, h12, h13, h14, h15, h16, h17, h18, h19, h20, h21, h22, h23, h25, h26, h27, h28, h29, h30, h31, h32, h33, h34, h35, h36, h37, h38, h39, h40, h41, h42, h43, h44, h45, h46, h47, h48, h49, h50, h51, h52, h53, h54, h55, h56, h57, h58, h59, h60, h61, h62, h63, h64, h65, h66, h67, h68, h69, h70, h81, h82, h83, h84, h85, h86, h87, h88, h89, h90, h91, h92, h93, h94, h95, h96, h97, h98, h99, h100, h101, h102, h103, h104, h105, h106, h107, h108, h109, h110, h111]
              clear h24 h0 h1 h2 h3 h4 h5 h6 h7 h8 h9 h10 h11 h12 h13 h14 h15 h16 h17 h18 h19 h20 h21 h22 h23 h25 h26 h27 h28 h29 h30 h31 h32 h33 h34 h35 h36 h37 h38 h39 h40 h41 h42 h43 h44 h45 h46 h47 h48 h49 h50 h51 h52 h53 h54 h55 h56 h57 h58 h59 h60 h61 h62 h63 h64 h65 h66 h67 h68 h69 h70 h81 h82 h83 h84 h85 h86 h87 h88 h89 h90 h91 h92 h93 h94 h95 h96 h97 h98 h99 h100 h101 h102 h103 h104 h105 h106 h107 h108 h109 h110 h111
              rw [undef_fold]
              have hb := from_drew hS
              replace hM := hM.later hb
              clear hS hb hD hX
              have hD := hM.hD
              have hrd := hM.hrd
              have hL := hM.hL
              have hB := hM.hB
              have HR1 := Lib.hid (HRd.out u fx.S hu)
              have HR2 := Lib.hid (HRr.out u fx.S hu)
              obtain ⟨A5, q5, hA⟩ : ∃ A q, rightA d r fx.S u = (A, q) := ⟨_, _, rfl⟩
              rw [hA] at HR1 HR2
              clear hA
              go_upto_region 19 with fail
              refine region_slots [some 82, some 83, some 84, some 85, some 86, some 87, some 88, some 89, some 81, some 90, some 91, some 25, none, some 26] [none, none, none, none, none, none, none, none, none, none, none, none, some 11, none] 112 14 rfl (by kernel_rfl) (by kernel_rfl) rfl rfl ?_
              apply step_fix
              · intro a W Zs hS hFm hz hd
                have h17 := hFm.old 17 rfl
                conv at h17 => rhs; whnf
                replace h17 := ev_get hFm.size h17
                have hq := (hD.drew1.later hS).at
                unfold confBox at hq
                refine .inl ⟨wanted_none rfl _, fun K hK => ?_⟩
                have HK := Lib.hid hK
                clear hd hFm hK
                go_simp
                exact HK.out _ _ rfl (Below.refl _ _)
              simp only [List.nil_append, List.cons_append]
              apply step_fix
              · intro a W Zs hS hFm hz hd
                have h18 := hFm.old 18 rfl
                conv at h18 => rhs; whnf
                replace h18 := ev_get hFm.size h18
                refine .inl ⟨wanted_none rfl _, fun K hK => ?_⟩
                have HK := Lib.hid hK
                clear hd hFm hK
                go_simp
                exact HK.out _ _ rfl (Below.refl _ _)
              simp only [List.nil_append, List.cons_append]
              apply step_fix
              · intro a W Zs hS hFm hz hd
                have h24 := hFm.old 24 rfl
                conv at h24 => rhs; whnf
                replace h24 := ev_get hFm.size h24
                refine .inl ⟨wanted_none rfl _, fun K hK => ?_⟩
                have HK := Lib.hid hK
                clear hd hFm hK
                go_simp
                exact HK.out _ _ rfl (Below.refl _ _)
              simp only [List.nil_append, List.cons_append]
              apply step_fix
              · intro a W Zs hS hFm hz hd
                have h21 := hFm.old 21 rfl
                conv at h21 => rhs; whnf
                replace h21 := ev_get hFm.size h21
                refine .inl ⟨wanted_none rfl _, fun K hK => ?_⟩
                have HK := Lib.hid hK
                clear hd hFm hK
                go_simp
                exact HK.out _ _ rfl (Below.refl _ _)
              simp only [List.nil_append, List.cons_append]
              apply step_fix
              · intro a W Zs hS hFm hz hd
                have h22 := hFm.old 22 rfl
                conv at h22 => rhs; whnf
                replace h22 := ev_get hFm.size h22
                refine .inl ⟨wanted_none rfl _, fun K hK => ?_⟩
                have HK := Lib.hid hK
                clear hd hFm hK
                go_simp
                exact HK.out _ _ rfl (Below.refl _ _)
              simp only [List.nil_append, List.cons_append]
              apply step_fix
              · intro a W Zs hS hFm hz hd
                have h85 := ev_get hFm.size (hd 3 85 rfl rfl)
                have h86 := ev_get hFm.size (hd 4 86 rfl rfl)
                refine .inl ⟨wanted_none rfl _, fun K hK => ?_⟩
                have HK := Lib.hid hK
                clear hd hFm hK
                go_simp
                exact HK.out _ _ rfl (Below.refl _ _)
              simp only [List.nil_append, List.cons_append]
              apply step_fix
              · intro a W Zs hS hFm hz hd
                have h87 := ev_get hFm.size (hd 5 87 rfl rfl)
                have hq := HCU.out _ (hL.drew1.later hS)
                refine .inl ⟨wanted_none rfl _, fun K hK => ?_⟩
                have HK := Lib.hid hK
                clear hd hFm hK
                go_simp
                exact HK.out _ _ rfl (Below.refl _ _)
              simp only [List.nil_append, List.cons_append]
              refine step_of (rbF _ (A5) (q5)) (rbF_good _ _ _) ?_ ?_
              · intro a W Zs hS hFm hz hd
                have h82 := ev_get hFm.size (hd 0 82 rfl rfl)
                have h83 := ev_get hFm.size (hd 1 83 rfl rfl)
                have h84 := ev_get hFm.size (hd 2 84 rfl rfl)
                have h88 := ev_get hFm.size (hd 6 88 rfl rfl)
                refine .inl ⟨wanted_none rfl _, fun K hK => ?_⟩
                have HK := Lib.hid hK
                clear hd hFm hK
                go_simp
                refine (HR1.out _ ((hbd.later hB).later (from_drew hS)) (hrd.later (from_drew hS))).mono ?_
                rintro e W' ⟨ra, rc, rfl, hr, hfr, hb⟩
                exact HK.out _ _ ⟨ra, rc, rfl, hr, hr.foot hfr⟩ hb
              simp only [List.nil_append, List.cons_append]
              refine step_of (rbF _ (A5) (q5)) (rbF_good _ _ _) ?_ ?_
              · intro a W Zs hS hFm hz hd
                obtain ⟨a89, c89, e89, r89, f89⟩ := hd 7 89 rfl rfl
                have h89 := ev_get hFm.size e89
                refine .inl ⟨wanted_none rfl _, fun K hK => ?_⟩
                have HK := Lib.hid hK
                clear hd hFm hK
                go_simp
                exact HK.out _ _ ⟨a89, c89, rfl, r89, ft_mono f89 (foot_dep 7 rfl rfl rfl)⟩ (Below.refl _ _)
              simp only [List.nil_append, List.cons_append]
              refine step_of (frF _ (A5)) (frF_good _ _) ?_ ?_
              · intro a W Zs hS hFm hz hd
                obtain ⟨a81, c81, e81, r81, f81⟩ := hd 8 81 rfl rfl
                have h81 := ev_get hFm.size e81
                refine .inl ⟨wanted_none rfl _, fun K hK => ?_⟩
                have HK := Lib.hid hK
                clear hd hFm hK
                go_simp
                exact HK.out _ _ ⟨a81, c81, rfl, r81, ft_mono f81 (foot_dep 8 rfl rfl rfl)⟩ (Below.refl _ _)
              simp only [List.nil_append, List.cons_append]
              apply step_fix
              · intro a W Zs hS hFm hz hd
                obtain ⟨a81, c81, e81, r81, f81⟩ := hd 8 81 rfl rfl
                have h81 := ev_get hFm.size e81
                refine .inl ⟨wanted_none rfl _, fun K hK => ?_⟩
                have HK := Lib.hid hK
                clear hd hFm hK
                go_simp
                exact HK.out _ _ rfl (Below.refl _ _)
              simp only [List.nil_append, List.cons_append]
              refine step_of (boxF _ 29 6) (boxF_good _ _ _) ?_ ?_
              · intro a W Zs hS hFm hz hd
                refine .inl ⟨wanted_none rfl _, fun K hK => ?_⟩
                have HK := Lib.hid hK
                clear hd hFm hK
                go_simp
                exact HK.out _ _ ⟨_, _, rfl, rfl, Blk.new _ _ _, .inl ⟨Nat.le_refl _, by simp⟩⟩ (alloc_below _ _)
              simp only [List.nil_append, List.cons_append]
              refine step_of (frBoxF _ (A5)) (frBoxF_good _ _) ?_ ?_
              · intro a W Zs hS hFm hz hd hap
                obtain ⟨b25, cs25, e25, n25, q25, z25⟩ := hd 11 25 rfl rfl
                have h25 := ev_get hFm.size e25
                obtain ⟨a90, c90, e90, r90, f90⟩ := hd 9 90 rfl rfl
                have h90 := ev_get hFm.size e90
                have hB0 := (hz 11 _ rfl z25).1
                obtain ⟨u0, u1, u2, u3, u4, u5, rfl⟩ := arr6 n25
                have hq := q25.at
                have hfz := q25.frozen
                refine ⟨wanted_none rfl _, b25, z25, fun K hK => ?_⟩
                have HK := Lib.hid hK
                clear hd hFm hK
                go_simp
                exact HK.out undef _ (Only.fill6 _ _ _ _ _ _ _ _) (fun d hd' => by injection hd' with hd'; subst hd'; exact ⟨⟨b25, a90, c90, e25, q25.fill6 _ _ _ _ _ _, r90.agree f90 (store_apart (Only.fill6 W b25 _ _ _ _ _ _) hB0 z25 hap 9 rfl (by decide)), .inr (.inl rfl), ft_mono f90 (foot_depS 9 rfl rfl rfl)⟩, ⟨b25, _, e25, rfl, q25.fill6 _ _ _ _ _ _, z25⟩⟩)
              simp only [List.nil_append, List.cons_append]
              apply step_fix
              · intro a W Zs hS hFm hz hd
                have h91 := ev_get hFm.size (hd 10 91 rfl rfl)
                refine .inl ⟨wanted_none rfl _, fun K hK => ?_⟩
                have HK := Lib.hid hK
                clear hd hFm hK
                go_simp
                exact HK.out _ _ rfl (Below.refl _ _)
              simp only [List.nil_append, List.cons_append]
              intro a w6 Zs hS hFm hz hd
              obtain ⟨b25, a25, c25, e25, q25, r25, f25, g25⟩ := hd 12 25 (by decide) rfl
              obtain ⟨bz, csz, ez, nz, qz, zz⟩ := hd 11 25 (by decide) rfl
              have nb25 := ptr_new ez e25 (hz 11 (by decide) bz zz)
              clear zz qz nz ez
              clear csz bz
              have e26 := hd 13 26 (by decide) rfl
              have e0 := hFm.old 0 rfl
              conv at e0 => rhs; whnf
              have e1 := hFm.old 1 rfl
              conv at e1 => rhs; whnf
              have e2 := hFm.old 2 rfl
              conv at e2 => rhs; whnf
              have e3 := hFm.old 3 rfl
              conv at e3 => rhs; whnf
              have e4 := hFm.old 4 rfl
              conv at e4 => rhs; whnf
              have e5 := hFm.old 5 rfl
              conv at e5 => rhs; whnf
              have e6 := hFm.old 6 rfl
              conv at e6 => rhs; whnf
              have e7 := hFm.old 7 rfl
              conv at e7 => rhs; whnf
              have e8 := hFm.old 8 rfl
              conv at e8 => rhs; whnf
              have e9 := hFm.old 9 rfl
              conv at e9 => rhs; whnf
              have e10 := hFm.old 10 rfl
              conv at e10 => rhs; whnf
              have e11 := hFm.old 11 rfl
              conv at e11 => rhs; whnf
              have e12 := hFm.old 12 rfl
              conv at e12 => rhs; whnf
              have e13 := hFm.old 13 rfl
              conv at e13 => rhs; whnf
              have e14 := hFm.old 14 rfl
              conv at e14 => rhs; whnf
              have e15 := hFm.old 15 rfl
              conv at e15 => rhs; whnf
              have e16 := hFm.old 16 rfl
              conv at e16 => rhs; whnf
              have e17 := hFm.old 17 rfl
              conv at e17 => rhs; whnf
              have e18 := hFm.old 18 rfl
              conv at e18 => rhs; whnf
              have e19 := hFm.old 19 rfl
              conv at e19 => rhs; whnf
              have e20 := hFm.old 20 rfl
              conv at e20 => rhs; whnf
              have e21 := hFm.old 21 rfl
              conv at e21 => rhs; whnf
              have e22 := hFm.old 22 rfl
              conv at e22 => rhs; whnf
              have e23 := hFm.old 23 rfl
              conv at e23 => rhs; whnf
              have e24 := hFm.old 24 rfl
              conv at e24 => rhs; whnf
              have e27 := hFm.old 27 rfl
              conv at e27 => rhs; whnf
              have e28 := hFm.old 28 rfl
              conv at e28 => rhs; whnf
              have e29 := hFm.old 29 rfl
              conv at e29 => rhs; whnf
              have e30 := hFm.old 30 rfl
              conv at e30 => rhs; whnf
              have e31 := hFm.old 31 rfl
              conv at e31 => rhs; whnf
              have e32 := hFm.old 32 rfl
              conv at e32 => rhs; whnf
              have e33 := hFm.old 33 rfl
              conv at e33 => rhs; whnf
              have e34 := hFm.old 34 rfl
              conv at e34 => rhs; whnf
              have e35 := hFm.old 35 rfl
              conv at e35 => rhs; whnf
              have e36 := hFm.old 36 rfl
              conv at e36 => rhs; whnf
              have e37 := hFm.old 37 rfl
              conv at e37 => rhs; whnf
              have e38 := hFm.old 38 rfl
              conv at e38 => rhs; whnf
              have e39 := hFm.old 39 rfl
              conv at e39 => rhs; whnf
              have e40 := hFm.old 40 rfl
              conv at e40 => rhs; whnf
              have e41 := hFm.old 41 rfl
              conv at e41 => rhs; whnf
              have e42 := hFm.old 42 rfl
              conv at e42 => rhs; whnf
              have e43 := hFm.old 43 rfl
              conv at e43 => rhs; whnf
              have e44 := hFm.old 44 rfl
              conv at e44 => rhs; whnf
              have e45 := hFm.old 45 rfl
              conv at e45 => rhs; whnf
              have e46 := hFm.old 46 rfl
              conv at e46 => rhs; whnf
              have e47 := hFm.old 47 rfl
              conv at e47 => rhs; whnf
              have e48 := hFm.old 48 rfl
              conv at e48 => rhs; whnf
              have e49 := hFm.old 49 rfl
              conv at e49 => rhs; whnf
              have e50 := hFm.old 50 rfl
              conv at e50 => rhs; whnf
              have e51 := hFm.old 51 rfl
              conv at e51 => rhs; whnf
              have e52 := hFm.old 52 rfl
              conv at e52 => rhs; whnf
              have e53 := hFm.old 53 rfl
              conv at e53 => rhs; whnf
              have e54 := hFm.old 54 rfl
              conv at e54 => rhs; whnf
              have e55 := hFm.old 55 rfl
              conv at e55 => rhs; whnf
              have e56 := hFm.old 56 rfl
              conv at e56 => rhs; whnf
              have e57 := hFm.old 57 rfl
              conv at e57 => rhs; whnf
              have e58 := hFm.old 58 rfl
              conv at e58 => rhs; whnf
              have e59 := hFm.old 59 rfl
              conv at e59 => rhs; whnf
              have e60 := hFm.old 60 rfl
              conv at e60 => rhs; whnf
              have e61 := hFm.old 61 rfl
              conv at e61 => rhs; whnf
              have e62 := hFm.old 62 rfl
              conv at e62 => rhs; whnf
              have e63 := hFm.old 63 rfl
              conv at e63 => rhs; whnf
              have e64 := hFm.old 64 rfl
              conv at e64 => rhs; whnf
              have e65 := hFm.old 65 rfl
              conv at e65 => rhs; whnf
              have e66 := hFm.old 66 rfl
              conv at e66 => rhs; whnf
              have e67 := hFm.old 67 rfl
              conv at e67 => rhs; whnf
              have e68 := hFm.old 68 rfl
              conv at e68 => rhs; whnf
              have e69 := hFm.old 69 rfl
              conv at e69 => rhs; whnf
              have e70 := hFm.old 70 rfl
              conv at e70 => rhs; whnf
              have e71 := hFm.old 71 rfl
              conv at e71 => rhs; whnf
              have e72 := hFm.old 72 rfl
              conv at e72 => rhs; whnf
              have e73 := hFm.old 73 rfl
              conv at e73 => rhs; whnf
              have e74 := hFm.old 74 rfl
              conv at e74 => rhs; whnf
              have e75 := hFm.old 75 rfl
              conv at e75 => rhs; whnf
              have e76 := hFm.old 76 rfl
              conv at e76 => rhs; whnf
              have e77 := hFm.old 77 rfl
              conv at e77 => rhs; whnf
              have e78 := hFm.old 78 rfl
              conv at e78 => rhs; whnf
              have e79 := hFm.old 79 rfl
              conv at e79 => rhs; whnf
              have e80 := hFm.old 80 rfl
              conv at e80 => rhs; whnf
              have e92 := hFm.old 92 rfl
              conv at e92 => rhs; whnf
              have e93 := hFm.old 93 rfl
              conv at e93 => rhs; whnf
              have e94 := hFm.old 94 rfl
              conv at e94 => rhs; whnf
              have e95 := hFm.old 95 rfl
              conv at e95 => rhs; whnf
              have e96 := hFm.old 96 rfl
              conv at e96 => rhs; whnf
              have e97 := hFm.old 97 rfl
              conv at e97 => rhs; whnf
              have e98 := hFm.old 98 rfl
              conv at e98 => rhs; whnf
              have e99 := hFm.old 99 rfl
              conv at e99 => rhs; whnf
              have e100 := hFm.old 100 rfl
              conv at e100 => rhs; whnf
              have e101 := hFm.old 101 rfl
              conv at e101 => rhs; whnf
              have e102 := hFm.old 102 rfl
              conv at e102 => rhs; whnf
              have e103 := hFm.old 103 rfl
              conv at e103 => rhs; whnf
              have e104 := hFm.old 104 rfl
              conv at e104 => rhs; whnf
              have e105 := hFm.old 105 rfl
              conv at e105 => rhs; whnf
              have e106 := hFm.old 106 rfl
              conv at e106 => rhs; whnf
              have e107 := hFm.old 107 rfl
              conv at e107 => rhs; whnf
              have e108 := hFm.old 108 rfl
              conv at e108 => rhs; whnf
              have e109 := hFm.old 109 rfl
              conv at e109 => rhs; whnf
              have e110 := hFm.old 110 rfl
              conv at e110 => rhs; whnf
              have e111 := hFm.old 111 rfl
              conv at e111 => rhs; whnf
              have hsz := hFm.size
              have hdf := hFm.defers
              clear hd hFm
              obtain ⟨t, df⟩ := a
              simp only at hsz hdf
              subst hdf
              obtain ⟨x, hx⟩ : ∃ x : Nat → Value, ∀ i, t.getD i undef = x i := ⟨fun i => t.getD i undef, fun _ => rfl⟩
              have h25 := (hx 25).symm.trans e25
              have h26 := (hx 26).symm.trans e26
              have h0 := (hx 0).symm.trans e0
              have h1 := (hx 1).symm.trans e1
              have h2 := (hx 2).symm.trans e2
              have h3 := (hx 3).symm.trans e3
              have h4 := (hx 4).symm.trans e4
              have h5 := (hx 5).symm.trans e5
              have h6 := (hx 6).symm.trans e6
              have h7 := (hx 7).symm.trans e7
              have h8 := (hx 8).symm.trans e8
              have h9 := (hx 9).symm.trans e9
              have h10 := (hx 10).symm.trans e10
              have h11 := (hx 11).symm.trans e11
              have h12 := (hx 12).symm.trans e12
              have h13 := (hx 13).symm.trans e13
              have h14 := (hx 14).symm.trans e14
              have h15 := (hx 15).symm.trans e15
              have h16 := (hx 16).symm.trans e16
              have h17 := (hx 17).symm.trans e17
              have h18 := (hx 18).symm.trans e18
              have h19 := (hx 19).symm.trans e19
              have h20 := (hx 20).symm.trans e20
              have h21 := (hx 21).symm.trans e21
              have h22 := (hx 22).symm.trans e22
              have h23 := (hx 23).symm.trans e23
              have h24 := (hx 24).symm.trans e24
              have h27 := (hx 27).symm.trans e27
              have h28 := (hx 28).symm.trans e28
              have h29 := (hx 29).symm.trans e29
              have h30 := (hx 30).symm.trans e30
              have h31 := (hx 31).symm.trans e31
              have h32 := (hx 32).symm.trans e32
              have h33 := (hx 33).symm.trans e33
              have h34 := (hx 34).symm.trans e34
              have h35 := (hx 35).symm.trans e35
              have h36 := (hx 36).symm.trans e36
              have h37 := (hx 37).symm.trans e37
              have h38 := (hx 38).symm.trans e38
              have h39 := (hx 39).symm.trans e39
              have h40 := (hx 40).symm.trans e40
              have h41 := (hx 41).symm.trans e41
              have h42 := (hx 42).symm.trans e42
              have h43 := (hx 43).symm.trans e43
              have h44 := (hx 44).symm.trans e44
              have h45 := (hx 45).symm.trans e45
              have h46 := (hx 46).symm.trans e46
              have h47 := (hx 47).symm.trans e47
              have h48 := (hx 48).symm.trans e48
              have h49 := (hx 49).symm.trans e49
              have h50 := (hx 50).symm.trans e50
              have h51 := (hx 51).symm.trans e51
              have h52 := (hx 52).symm.trans e52
              have h53 := (hx 53).symm.trans e53
              have h54 := (hx 54).symm.trans e54
              have h55 := (hx 55).symm.trans e55
              have h56 := (hx 56).symm.trans e56
              have h57 := (hx 57).symm.trans e57
              have h58 := (hx 58).symm.trans e58
              have h59 := (hx 59).symm.trans e59
              have h60 := (hx 60).symm.trans e60
              have h61 := (hx 61).symm.trans e61
              have h62 := (hx 62).symm.trans e62
              have h63 := (hx 63).symm.trans e63
              have h64 := (hx 64).symm.trans e64
              have h65 := (hx 65).symm.trans e65
              have h66 := (hx 66).symm.trans e66
              have h67 := (hx 67).symm.trans e67
              have h68 := (hx 68).symm.trans e68
              have h69 := (hx 69).symm.trans e69
              have h70 := (hx 70).symm.trans e70
              have h71 := (hx 71).symm.trans e71
              have h72 := (hx 72).symm.trans e72
              have h73 := (hx 73).symm.trans e73
              have h74 := (hx 74).symm.trans e74
              have h75 := (hx 75).symm.trans e75
              have h76 := (hx 76).symm.trans e76
              have h77 := (hx 77).symm.trans e77
              have h78 := (hx 78).symm.trans e78
              have h79 := (hx 79).symm.trans e79
              have h80 := (hx 80).symm.trans e80
              have h92 := (hx 92).symm.trans e92
              have h93 := (hx 93).symm.trans e93
              have h94 := (hx 94).symm.trans e94
              have h95 := (hx 95).symm.trans e95
              have h96 := (hx 96).symm.trans e96
              have h97 := (hx 97).symm.trans e97
              have h98 := (hx 98).symm.trans e98
              have h99 := (hx 99).symm.trans e99
              have h100 := (hx 100).symm.trans e100
              have h101 := (hx 101).symm.trans e101
              have h102 := (hx 102).symm.trans e102
              have h103 := (hx 103).symm.trans e103
              have h104 := (hx 104).symm.trans e104
              have h105 := (hx 105).symm.trans e105
              have h106 := (hx 106).symm.trans e106
              have h107 := (hx 107).symm.trans e107
              have h108 := (hx 108).symm.trans e108
              have h109 := (hx 109).symm.trans e109
              have h110 := (hx 110).symm.trans e110
              have h111 := (hx 111).symm.trans e111
              have ht' : t = #[x 0, x 1, x 2, x 3, x 4, x 5, x 6, x 7, x 8, x 9, x 10, x 11, x 12, x 13, x 14, x 15, x 16, x 17, x 18, x 19, x 20, x 21, x 22, x 23, x 24, x 25, x 26, x 27, x 28, x 29, x 30, x 31, x 32, x 33, x 34, x 35, x 36, x 37, x 38, x 39, x 40, x 41, x 42, x 43, x 44, x 45, x 46, x 47, x 48, x 49, x 50, x 51, x 52, x 53, x 54, x 55, x 56, x 57, x 58, x 59, x 60, x 61, x 62, x 63, x 64, x 65, x 66, x 67, x 68, x 69, x 70, x 71, x 72, x 73, x 74, x 75, x 76, x 77, x 78, x 79, x 80, x 81, x 82, x 83, x 84, x 85, x 86, x 87, x 88, x 89, x 90, x 91, x 92, x 93, x 94, x 95, x 96, x 97, x 98, x 99, x 100, x 101, x 102, x 103, x 104, x 105, x 106, x 107, x 108, x 109, x 110, x 111] := frame_lit t 112 hsz x hx
              clear hx hsz hz e25 e26 e0 e1 e2 e3 e4 e5 e6 e7 e8 e9 e10 e11 e12 e13 e14 e15 e16 e17 e18 e19 e20 e21 e22 e23 e24 e27 e28 e29 e30 e31 e32 e33 e34 e35 e36 e37 e38 e39 e40 e41 e42 e43 e44 e45 e46 e47 e48 e49 e50 e51 e52 e53 e54 e55 e56 e57 e58 e59 e60 e61 e62 e63 e64 e65 e66 e67 e68 e69 e70 e71 e72 e73 e74 e75 e76 e77 e78 e79 e80 e92 e93 e94 e95 e96 e97 e98 e99 e100 e101 e102 e103 e104 e105 e106 e107 e108 e109 e110 e111
              subst ht'
              (try dsimp only)
              rw [h25, h26, h0, h1, h2, h3, h4, h5, h6, h7, h8, h9, h10, h11, h12, h13, h14, h15, h16, h17, h18, h19, h20, h21, h22, h23, h24, h27, h28, h29, h30, h31, h32, h33, h34, h35, h36, h37, h38, h39, h40, h41, h42, h43, h44, h45, h46, h47, h48, h49, h50, h51, h52, h53, h54, h55, h56, h57, h58, h59, h60, h61, h62, h63, h64, h65, h66, h67, h68, h69, h70, h71, h72, h73, h74, h75, h76, h77, h78, h79, h80, h92, h93, h94, h95, h96, h97, h98, h99, h100, h101, h102, h103, h104, h105, h106, h107, h108, h109, h110, h111]
              clear h25 h26 h0 h1 h2 h3 h4 h5 h6 h7 h8 h9 h10 h11 h12 h13 h14 h15 h16 h17 h18 h19 h20 h21 h22 h23 h24 h27 h28 h29 h30 h31 h32 h33 h34 h35 h36 h37 h38 h39 h40 h41 h42 h43 h44 h45 h46 h47 h48 h49 h50 h51 h52 h53 h54 h55 h56 h57 h58 h59 h60 h61 h62 h63 h64 h65 h66 h67 h68 h69 h70 h71 h72 h73 h74 h75 h76 h77 h78 h79 h80 h92 h93 h94 h95 h96 h97 h98 h99 h100 h101 h102 h103 h104 h105 h106 h107 h108 h109 h110 h111
              rw [undef_fold]
              have hb := from_drew hS
              replace hM := hM.later hb
              have hE := q25
              have hrE := r25
              clear hS hb hD hrd hL hB q25 r25 f25 g25 nb25 HR1
              have hD := hM.hD
              have hrd := hM.hrd
              have hL := hM.hL
              go_upto_region 20 with fail
              refine region_slots [some 93, some 94, some 95, some 96, some 97, some 98, some 99, some 100, some 92, some 101, some 102, some 27, none, some 28] [none, none, none, none, none, none, none, none, none, none, none, none, some 11, none] 112 14 rfl (by kernel_rfl) (by kernel_rfl) rfl rfl ?_
              apply step_fix
              · intro a W Zs hS hFm hz hd
                have h17 := hFm.old 17 rfl
                conv at h17 => rhs; whnf
                replace h17 := ev_get hFm.size h17
                have hq := (hD.drew1.later hS).at
                unfold confBox at hq
                refine .inl ⟨wanted_none rfl _, fun K hK => ?_⟩
                have HK := Lib.hid hK
                clear hd hFm hK
                go_simp
                exact HK.out _ _ rfl (Below.refl _ _)
              simp only [List.nil_append, List.cons_append]
              apply step_fix
              · intro a W Zs hS hFm hz hd
                have h18 := hFm.old 18 rfl
                conv at h18 => rhs; whnf
                replace h18 := ev_get hFm.size h18
                refine .inl ⟨wanted_none rfl _, fun K hK => ?_⟩
                have HK := Lib.hid hK
                clear hd hFm hK
                go_simp
                exact HK.out _ _ rfl (Below.refl _ _)
              simp only [List.nil_append, List.cons_append]
              apply step_fix
              · intro a W Zs hS hFm hz hd
                have h24 := hFm.old 24 rfl
                conv at h24 => rhs; whnf
                replace h24 := ev_get hFm.size h24
                refine .inl ⟨wanted_none rfl _, fun K hK => ?_⟩
                have HK := Lib.hid hK
                clear hd hFm hK
                go_simp
                exact HK.out _ _ rfl (Below.refl _ _)
              simp only [List.nil_append, List.cons_append]
              apply step_fix
              · intro a W Zs hS hFm hz hd
                have h21 := hFm.old 21 rfl
                conv at h21 => rhs; whnf
                replace h21 := ev_get hFm.size h21
                refine .inl ⟨wanted_none rfl _, fun K hK => ?_⟩
                have HK := Lib.hid hK
                clear hd hFm hK
                go_simp
                exact HK.out _ _ rfl (Below.refl _ _)
              simp only [List.nil_append, List.cons_append]
              apply step_fix
              · intro a W Zs hS hFm hz hd
                have h22 := hFm.old 22 rfl
                conv at h22 => rhs; whnf
                replace h22 := ev_get hFm.size h22
                refine .inl ⟨wanted_none rfl _, fun K hK => ?_⟩
                have HK := Lib.hid hK
                clear hd hFm hK
                go_simp
                exact HK.out _ _ rfl (Below.refl _ _)
              simp only [List.nil_append, List.cons_append]
              apply step_fix
              · intro a W Zs hS hFm hz hd
                have h96 := ev_get hFm.size (hd 3 96 rfl rfl)
                have h97 := ev_get hFm.size (hd 4 97 rfl rfl)
                refine .inl ⟨wanted_none rfl _, fun K hK => ?_⟩
                have HK := Lib.hid hK
                clear hd hFm hK
                go_simp
                exact HK.out _ _ rfl (Below.refl _ _)
              simp only [List.nil_append, List.cons_append]
              apply step_fix
              · intro a W Zs hS hFm hz hd
                have h98 := ev_get hFm.size (hd 5 98 rfl rfl)
                have hq := HCU.out _ (hL.drew1.later hS)
                refine .inl ⟨wanted_none rfl _, fun K hK => ?_⟩
                have HK := Lib.hid hK
                clear hd hFm hK
                go_simp
                exact HK.out _ _ rfl (Below.refl _ _)
              simp only [List.nil_append, List.cons_append]
              refine step_of (rbF _ (A5) (q5)) (rbF_good _ _ _) ?_ ?_
              · intro a W Zs hS hFm hz hd
                have h93 := ev_get hFm.size (hd 0 93 rfl rfl)
                have h94 := ev_get hFm.size (hd 1 94 rfl rfl)
                have h95 := ev_get hFm.size (hd 2 95 rfl rfl)
                have h99 := ev_get hFm.size (hd 6 99 rfl rfl)
                refine .inl ⟨wanted_none rfl _, fun K hK => ?_⟩
                have HK := Lib.hid hK
                clear hd hFm hK
                go_simp
                refine (HR2.out _ (hrd.later (from_drew hS))).mono ?_
                rintro e W' ⟨ra, rc, rfl, hr, hfr, hb⟩
                exact HK.out _ _ ⟨ra, rc, rfl, hr, hr.foot hfr⟩ hb
              simp only [List.nil_append, List.cons_append]
              refine step_of (rbF _ (A5) (q5)) (rbF_good _ _ _) ?_ ?_
              · intro a W Zs hS hFm hz hd
                obtain ⟨a100, c100, e100, r100, f100⟩ := hd 7 100 rfl rfl
                have h100 := ev_get hFm.size e100
                refine .inl ⟨wanted_none rfl _, fun K hK => ?_⟩
                have HK := Lib.hid hK
                clear hd hFm hK
                go_simp
                exact HK.out _ _ ⟨a100, c100, rfl, r100, ft_mono f100 (foot_dep 7 rfl rfl rfl)⟩ (Below.refl _ _)
              simp only [List.nil_append, List.cons_append]
              refine step_of (frF _ (A5)) (frF_good _ _) ?_ ?_
              · intro a W Zs hS hFm hz hd
                obtain ⟨a92, c92, e92, r92, f92⟩ := hd 8 92 rfl rfl
                have h92 := ev_get hFm.size e92
                refine .inl ⟨wanted_none rfl _, fun K hK => ?_⟩
                have HK := Lib.hid hK
                clear hd hFm hK
                go_simp
                exact HK.out _ _ ⟨a92, c92, rfl, r92, ft_mono f92 (foot_dep 8 rfl rfl rfl)⟩ (Below.refl _ _)
              simp only [List.nil_append, List.cons_append]
              apply step_fix
              · intro a W Zs hS hFm hz hd
                obtain ⟨a92, c92, e92, r92, f92⟩ := hd 8 92 rfl rfl
                have h92 := ev_get hFm.size e92
                refine .inl ⟨wanted_none rfl _, fun K hK => ?_⟩
                have HK := Lib.hid hK
                clear hd hFm hK
                go_simp
                exact HK.out _ _ rfl (Below.refl _ _)
              simp only [List.nil_append, List.cons_append]
              refine step_of (boxF _ 29 6) (boxF_good _ _ _) ?_ ?_
              · intro a W Zs hS hFm hz hd
                refine .inl ⟨wanted_none rfl _, fun K hK => ?_⟩
                have HK := Lib.hid hK
                clear hd hFm hK
                go_simp
                exact HK.out _ _ ⟨_, _, rfl, rfl, Blk.new _ _ _, .inl ⟨Nat.le_refl _, by simp⟩⟩ (alloc_below _ _)
              simp only [List.nil_append, List.cons_append]
              refine step_of (frBoxF _ (A5)) (frBoxF_good _ _) ?_ ?_
              · intro a W Zs hS hFm hz hd hap
                obtain ⟨b27, cs27, e27, n27, q27, z27⟩ := hd 11 27 rfl rfl
                have h27 := ev_get hFm.size e27
                obtain ⟨a101, c101, e101, r101, f101⟩ := hd 9 101 rfl rfl
                have h101 := ev_get hFm.size e101
                have hB0 := (hz 11 _ rfl z27).1
                obtain ⟨u0, u1, u2, u3, u4, u5, rfl⟩ := arr6 n27
                have hq := q27.at
                have hfz := q27.frozen
                refine ⟨wanted_none rfl _, b27, z27, fun K hK => ?_⟩
                have HK := Lib.hid hK
                clear hd hFm hK
                go_simp
                exact HK.out undef _ (Only.fill6 _ _ _ _ _ _ _ _) (fun d hd' => by injection hd' with hd'; subst hd'; exact ⟨⟨b27, a101, c101, e27, q27.fill6 _ _ _ _ _ _, r101.agree f101 (store_apart (Only.fill6 W b27 _ _ _ _ _ _) hB0 z27 hap 9 rfl (by decide)), .inr (.inl rfl), ft_mono f101 (foot_depS 9 rfl rfl rfl)⟩, ⟨b27, _, e27, rfl, q27.fill6 _ _ _ _ _ _, z27⟩⟩)
              simp only [List.nil_append, List.cons_append]
              apply step_fix
              · intro a W Zs hS hFm hz hd
                have h102 := ev_get hFm.size (hd 10 102 rfl rfl)
                refine .inl ⟨wanted_none rfl _, fun K hK => ?_⟩
                have HK := Lib.hid hK
                clear hd hFm hK
                go_simp
                exact HK.out _ _ rfl (Below.refl _ _)
              simp only [List.nil_append, List.cons_append]
              intro a w7 Zs hS hFm hz hd
              obtain ⟨b27, a27, c27, e27, q27, r27, f27, g27⟩ := hd 12 27 (by decide) rfl
              obtain ⟨bz, csz, ez, nz, qz, zz⟩ := hd 11 27 (by decide) rfl
              have nb27 := ptr_new ez e27 (hz 11 (by decide) bz zz)
              clear zz qz nz ez
              clear csz bz
              have e28 := hd 13 28 (by decide) rfl
              have e0 := hFm.old 0 rfl
              conv at e0 => rhs; whnf
              have e1 := hFm.old 1 rfl
              conv at e1 => rhs; whnf
              have e2 := hFm.old 2 rfl
              conv at e2 => rhs; whnf
              have e3 := hFm.old 3 rfl
              conv at e3 => rhs; whnf
              have e4 := hFm.old 4 rfl
              conv at e4 => rhs; whnf
              have e5 := hFm.old 5 rfl
              conv at e5 => rhs; whnf
              have e6 := hFm.old 6 rfl
              conv at e6 => rhs; whnf
              have e7 := hFm.old 7 rfl
              conv at e7 => rhs; whnf
              have e8 := hFm.old 8 rfl
              conv at e8 => rhs; whnf
              have e9 := hFm.old 9 rfl
              conv at e9 => rhs; whnf
              have e10 := hFm.old 10 rfl
              conv at e10 => rhs; whnf
              have e11 := hFm.old 11 rfl
              conv at e11 => rhs; whnf
              have e12 := hFm.old 12 rfl
              conv at e12 => rhs; whnf
              have e13 := hFm.old 13 rfl
              conv at e13 => rhs; whnf
              have e14 := hFm.old 14 rfl
              conv at e14 => rhs; whnf
              have e15 := hFm.old 15 rfl
              conv at e15 => rhs; whnf
              have e16 := hFm.old 16 rfl
              conv at e16 => rhs; whnf
              have e17 := hFm.old 17 rfl
              conv at e17 => rhs; whnf
              have e18 := hFm.old 18 rfl
              conv at e18 => rhs; whnf
              have e19 := hFm.old 19 rfl
              conv at e19 => rhs; whnf
              have e20 := hFm.old 20 rfl
              conv at e20 => rhs; whnf
              have e21 := hFm.old 21 rfl
              conv at e21 => rhs; whnf
              have e22 := hFm.old 22 rfl
              conv at e22 => rhs; whnf
              have e23 := hFm.old 23 rfl
              conv at e23 => rhs; whnf
              have e24 := hFm.old 24 rfl
              conv at e24 => rhs; whnf
              have e25 := hFm.old 25 rfl
              conv at e25 => rhs; whnf
              have e26 := hFm.old 26 rfl
              conv at e26 => rhs; whnf
              have e29 := hFm.old 29 rfl
              conv at e29 => rhs; whnf
              have e30 := hFm.old 30 rfl
              conv at e30 => rhs; whnf
              have e31 := hFm.old 31 rfl
              conv at e31 => rhs; whnf
              have e32 := hFm.old 32 rfl
              conv at e32 => rhs; whnf
              have e33 := hFm.old 33 rfl
              conv at e33 => rhs; whnf
              have e34 := hFm.old 34 rfl
              conv at e34 => rhs; whnf
              have e35 := hFm.old 35 rfl
              conv at e35 => rhs; whnf
              have e36 := hFm.old 36 rfl
              conv at e36 => rhs; whnf
              have e37 := hFm.old 37 rfl
              conv at e37 => rhs; whnf
              have e38 := hFm.old 38 rfl
              conv at e38 => rhs; whnf
              have e39 := hFm.old 39 rfl
              conv at e39 => rhs; whnf
              have e40 := hFm.old 40 rfl
              conv at e40 => rhs; whnf
              have e41 := hFm.old 41 rfl
              conv at e41 => rhs; whnf
              have e42 := hFm.old 42 rfl
              conv at e42 => rhs; whnf
              have e43 := hFm.old 43 rfl
              conv at e43 => rhs; whnf
              have e44 := hFm.old 44 rfl
              conv at e44 => rhs; whnf
              have e45 := hFm.old 45 rfl
              conv at e45 => rhs; whnf
              have e46 := hFm.old 46 rfl
              conv at e46 => rhs; whnf
              have e47 := hFm.old 47 rfl
              conv at e47 => rhs; whnf
              have e48 := hFm.old 48 rfl
              conv at e48 => rhs; whnf
              have e49 := hFm.old 49 rfl
              conv at e49 => rhs; whnf
              have e50 := hFm.old 50 rfl
              conv at e50 => rhs; whnf
              have e51 := hFm.old 51 rfl
              conv at e51 => rhs; whnf
              have e52 := hFm.old 52 rfl
              conv at e52 => rhs; whnf
              have e53 := hFm.old 53 rfl
              conv at e53 => rhs; whnf
              have e54 := hFm.old 54 rfl
              conv at e54 => rhs; whnf
              have e55 := hFm.old 55 rfl
              conv at e55 => rhs; whnf
              have e56 := hFm.old 56 rfl
              conv at e56 => rhs; whnf
              have e57 := hFm.old 57 rfl
              conv at e57 => rhs; whnf
              have e58 := hFm.old 58 rfl
              conv at e58 => rhs; whnf
              have e59 := hFm.old 59 rfl
              conv at e59 => rhs; whnf
              have e60 := hFm.old 60 rfl
              conv at e60 => rhs; whnf
              have e61 := hFm.old 61 rfl
              conv at e61 => rhs; whnf
              have e62 := hFm.old 62 rfl
              conv at e62 => rhs; whnf
              have e63 := hFm.old 63 rfl
              conv at e63 => rhs; whnf
              have e64 := hFm.old 64 rfl
              conv at e64 => rhs; whnf
              have e65 := hFm.old 65 rfl
              conv at e65 => rhs; whnf
              have e66 := hFm.old 66 rfl
              conv at e66 => rhs; whnf
              have e67 := hFm.old 67 rfl
              conv at e67 => rhs; whnf
              have e68 := hFm.old 68 rfl
              conv at e68 => rhs; whnf
              have e69 := hFm.old 69 rfl
              conv at e69 => rhs; whnf
              have e70 := hFm.old 70 rfl
              conv at e70 => rhs; whnf
              have e71 := hFm.old 71 rfl
              conv at e71 => rhs; whnf
              have e72 := hFm.old 72 rfl
              conv at e72 => rhs; whnf
              have e73 := hFm.old 73 rfl
              conv at e73 => rhs; whnf
              have e74 := hFm.old 74 rfl
              conv at e74 => rhs; whnf
              have e75 := hFm.old 75 rfl
              conv at e75 => rhs; whnf
              have e76 := hFm.old 76 rfl
              conv at e76 => rhs; whnf
              have e77 := hFm.old 77 rfl
              conv at e77 => rhs; whnf
              have e78 := hFm.old 78 rfl
              conv at e78 => rhs; whnf
              have e79 := hFm.old 79 rfl
              conv at e79 => rhs; whnf
              have e80 := hFm.old 80 rfl
              conv at e80 => rhs; whnf
              have e81 := hFm.old 81 rfl
              conv at e81 => rhs; whnf
              have e82 := hFm.old 82 rfl
              conv at e82 => rhs; whnf
              have e83 := hFm.old 83 rfl
              conv at e83 => rhs; whnf
              have e84 := hFm.old 84 rfl
              conv at e84 => rhs; whnf
              have e85 := hFm.old 85 rfl
              conv at e85 => rhs; whnf
              have e86 := hFm.old 86 rfl
              conv at e86 => rhs; whnf
              have e87 := hFm.old 87 rfl
              conv at e87 => rhs; whnf
              have e88 := hFm.old 88 rfl
              conv at e88 => rhs; whnf
              have e89 := hFm.old 89 rfl
              conv at e89 => rhs; whnf
              have e90 := hFm.old 90 rfl
              conv at e90 => rhs; whnf
              have e91 := hFm.old 91 rfl
              conv at e91 => rhs; whnf
              have e103 := hFm.old 103 rfl
              conv at e103 => rhs; whnf
              have e104 := hFm.old 104 rfl
              conv at e104 => rhs; whnf
              have e105 := hFm.old 105 rfl
              conv at e105 => rhs; whnf
              have e106 := hFm.old 106 rfl
              conv at e106 => rhs; whnf
              have e107 := hFm.old 107 rfl
              conv at e107 => rhs; whnf
              have e108 := hFm.old 108 rfl
              conv at e108 => rhs; whnf
              have e109 := hFm.old 109 rfl
              conv at e109 => rhs; whnf
              have e110 := hFm.old 110 rfl
              conv at e110 => rhs; whnf
              have e111 := hFm.old 111 rfl
              conv at e111 => rhs; whnf
              have hsz := hFm.size
              have hdf := hFm.defers
              clear hd hFm
              obtain ⟨t, df⟩ := a
              simp only at hsz hdf
              subst hdf
              obtain ⟨x, hx⟩ : ∃ x : Nat → Value, ∀ i, t.getD i undef = x i := ⟨fun i => t.getD i undef, fun _ => rfl⟩
              have h27 := (hx 27).symm.trans e27
              have h28 := (hx 28).symm.trans e28
              have h0 := (hx 0).symm.trans e0
              have h1 := (hx 1).symm.trans e1
              have h2 := (hx 2).symm.trans e2
              have h3 := (hx 3).symm.trans e3
              have h4 := (hx 4).symm.trans e4
              have h5 := (hx 5).symm.trans e5
              have h6 := (hx 6).symm.trans e6
              have h7 := (hx 7).symm.trans e7
              have h8 := (hx 8).symm.trans e8
              have h9 := (hx 9).symm.trans e9
              have h10 := (hx 10).symm.trans e10
              have h11 := (hx 11).symm.trans e11
              have h12 := (hx 12).symm.trans e12
              have h13 := (hx 13).symm.trans e13
              have h14 := (hx 14).symm.trans e14
              have h15 := (hx 15).symm.trans e15
              have h16 := (hx 16).symm.trans e16
              have h17 := (hx 17).symm.trans e17
              have h18 := (hx 18).symm.trans e18
              have h19 := (hx 19).symm.trans e19
              have h20 := (hx 20).symm.trans e20
              have h21 := (hx 21).symm.trans e21
              have h22 := (hx 22).symm.trans e22
              have h23 := (hx 23).symm.trans e23
              have h24 := (hx 24).symm.trans e24
              have h25 := (hx 25).symm.trans e25
              have h26 := (hx 26).symm.trans e26
              have h29 := (hx 29).symm.trans e29
              have h30 := (hx 30).symm.trans e30
              have h31 := (hx 31).symm.trans e31
              have h32 := (hx 32).symm.trans e32
              have h33 := (hx 33).symm.trans e33
              have h34 := (hx 34).symm.trans e34
              have h35 := (hx 35).symm.trans e35
              have h36 := (hx 36).symm.trans e36
              have h37 := (hx 37).symm.trans e37
              have h38 := (hx 38).symm.trans e38
              have h39 := (hx 39).symm.trans e39
              have h40 := (hx 40).symm.trans e40
              have h41 := (hx 41).symm.trans e41
              have h42 := (hx 42).symm.trans e42
              have h43 := (hx 43).symm.trans e43
              have h44 := (hx 44).symm.trans e44
              have h45 := (hx 45).symm.trans e45
              have h46 := (hx 46).symm.trans e46
              have h47 := (hx 47).symm.trans e47
              have h48 := (hx 48).symm.trans e48
              have h49 := (hx 49).symm.trans e49
              have h50 := (hx 50).symm.trans e50
              have h51 := (hx 51).symm.trans e51
              have h52 := (hx 52).symm.trans e52
              have h53 := (hx 53).symm.trans e53
              have h54 := (hx 54).symm.trans e54
              have h55 := (hx 55).symm.trans e55
              have h56 := (hx 56).symm.trans e56
              have h57 := (hx 57).symm.trans e57
              have h58 := (hx 58).symm.trans e58
              have h59 := (hx 59).symm.trans e59
              have h60 := (hx 60).symm.trans e60
              have h61 := (hx 61).symm.trans e61
              have h62 := (hx 62).symm.trans e62
              have h63 := (hx 63).symm.trans e63
              have h64 := (hx 64).symm.trans e64
              have h65 := (hx 65).symm.trans e65
              have h66 := (hx 66).symm.trans e66
              have h67 := (hx 67).symm.trans e67
              have h68 := (hx 68).symm.trans e68
              have h69 := (hx 69).symm.trans e69
              have h70 := (hx 70).symm.trans e70
              have h71 := (hx 71).symm.trans e71
              have h72 := (hx 72).symm.trans e72
              have h73 := (hx 73).symm.trans e73
              have h74 := (hx 74).symm.trans e74
              have h75 := (hx 75).symm.trans e75
              have h76 := (hx 76).symm.trans e76
              have h77 := (hx 77).symm.trans e77
              have h78 := (hx 78).symm.trans e78
              have h79 := (hx 79).symm.trans e79
              have h80 := (hx 80).symm.trans e80
              have h81 := (hx 81).symm.trans e81
              have h82 := (hx 82).symm.trans e82
              have h83 := (hx 83).symm.trans e83
              have h84 := (hx 84).symm.trans e84
              have h85 := (hx 85).symm.trans e85
              have h86 := (hx 86).symm.trans e86
              have h87 := (hx 87).symm.trans e87
              have h88 := (hx 88).symm.trans e88
              have h89 := (hx 89).symm.trans e89
              have h90 := (hx 90).symm.trans e90
              have h91 := (hx 91).symm.trans e91
              have h103 := (hx 103).symm.trans e103
              have h104 := (hx 104).symm.trans e104
              have h105 := (hx 105).symm.trans e105
              have h106 := (hx 106).symm.trans e106
              have h107 := (hx 107).symm.trans e107
              have h108 := (hx 108).symm.trans e108
              have h109 := (hx 109).symm.trans e109
              have h110 := (hx 110).symm.trans e110
              have h111 := (hx 111).symm.trans e111
              have ht' : t = #[x 0, x 1, x 2, x 3, x 4, x 5, x 6, x 7, x 8, x 9, x 10, x 11, x 12, x 13, x 14, x 15, x 16, x 17, x 18, x 19, x 20, x 21, x 22, x 23, x 24, x 25, x 26, x 27, x 28, x 29, x 30, x 31, x 32, x 33, x 34, x 35, x 36, x 37, x 38, x 39, x 40, x 41, x 42, x 43, x 44, x 45, x 46, x 47, x 48, x 49, x 50, x 51, x 52, x 53, x 54, x 55, x 56, x 57, x 58, x 59, x 60, x 61, x 62, x 63, x 64, x 65, x 66, x 67, x 68, x 69, x 70, x 71, x 72, x 73, x 74, x 75, x 76, x 77, x 78, x 79, x 80, x 81, x 82, x 83, x 84, x 85, x 86, x 87, x 88, x 89, x 90, x 91, x 92, x 93, x 94, x 95, x 96, x 97, x 98, x 99, x 100, x 101, x 102, x 103, x 104, x 105, x 106, x 107, x 108, x 109, x 110, x 111] := frame_lit t 112 hsz x hx
              clear hx hsz hz e27 e28 e0 e1 e2 e3 e4 e5 e6 e7 e8 e9 e10 e11 e12 e13 e14 e15 e16 e17 e18 e19 e20 e21 e22 e23 e24 e25 e26 e29 e30 e31 e32 e33 e34 e35 e36 e37 e38 e39 e40 e41 e42 e43 e44 e45 e46 e47 e48 e49 e50 e51 e52 e53 e54 e55 e56 e57 e58 e59 e60 e61 e62 e63 e64 e65 e66 e67 e68 e69 e70 e71 e72 e73 e74 e75 e76 e77 e78 e79 e80 e81 e82 e83 e84 e85 e86 e87 e88 e89 e90 e91 e103 e104 e105 e106 e107 e108 e109 e110 e111
              subst ht'
              (try dsimp only)
              rw [h27, h28, h0, h1, h2, h3, h4, h5, h6, h7, h8, h9, h10, h11, h12, h13, h14, h15, h16, h17, h18, h19, h20, h21, h22, h23, h24, h25, h26, h29, h30, h31, h32, h33, h34, h35, h36, h37, h38, h39, h40, h41, h42, h43, h44, h45, h46, h47, h48, h49, h50, h51, h52, h53, h54, h55, h56, h57, h58, h59, h60, h61, h62, h63, h64, h65, h66, h67, h68, h69, h70, h71, h72, h73, h74, h75, h76, h77, h78, h79, h80, h81, h82, h83, h84, h85, h86, h87, h88, h89, h90, h91, h103, h104, h105, h106, h107, h108, h109, h110, h111]
              clear h27 h28 h0 h1 h2 h3 h4 h5 h6 h7 h8 h9 h10 h11 h12 h13 h14 h15 h16 h17 h18 h19 h20 h21 h22 h23 h24 h25 h26 h29 h30 h31 h32 h33 h34 h35 h36 h37 h38 h39 h40 h41 h42 h43 h44 h45 h46 h47 h48 h49 h50 h51 h52 h53 h54 h55 h56 h57 h58 h59 h60 h61 h62 h63 h64 h65 h66 h67 h68 h69 h70 h71 h72 h73 h74 h75 h76 h77 h78 h79 h80 h81 h82 h83 h84 h85 h86 h87 h88 h89 h90 h91 h103 h104 h105 h106 h107 h108 h109 h110 h111
              rw [undef_fold]
              have hb := from_drew hS
              replace hM := hM.later hb
              replace hE := hE.later hb
              replace hrE := hrE.later hb
              clear hS hb hD hrd hL HR2
              have qE := hE.at
              unfold frBox at qE
              have qG := q27.at
              unfold frBox at qG
              have hbb : (q5 != q5) = false := by simp
              go_wp2_with fail
              refine (rSame5_any A5 A5 a25 a27 c25 c27 _ hrE r27).mono ?_
              rintro e w9 ⟨rfl, hb⟩
              replace hM := hM.later hb
              have HREL := Lib.hid (show RiJ d da dc db gb lb fx ga gc (#[.string ⟨t.toArray⟩, .string ⟨tt.toArray⟩, .string ⟨tm.toArray⟩, .string ⟨raw.toArray⟩]) w (.int .i64 1) w9 from ⟨.inr (.inl rfl), hM⟩)
              clear hM hb qE qG hE hrE q27 r27
              go_wp2
              go_roundw
              case rel => exact HREL.out
              case measure => simp [intOf]
            · skip
              have hD := hM.hD
              have hX := hM.hX
              go_upto_region 18 with fail
              refine region_slots [some 71, some 72, some 73, some 74, some 75, some 76, some 77, some 78, some 79, some 80, some 24] [none, none, none, none, none, none, none, none, none, none, none] 112 11 rfl (by kernel_rfl) (by kernel_rfl) rfl rfl ?_
              apply step_fix
              · intro a W Zs hS hFm hz hd
                have h19 := hFm.old 19 rfl
                conv at h19 => rhs; whnf
                replace h19 := ev_get hFm.size h19
                refine .inl ⟨wanted_none rfl _, fun K hK => ?_⟩
                have HK := Lib.hid hK
                clear hd hFm hK
                go_simp
                exact HK.out _ _ rfl (Below.refl _ _)
              simp only [List.nil_append, List.cons_append]
              apply step_fix
              · intro a W Zs hS hFm hz hd
                have h71 := ev_get hFm.size (hd 0 71 rfl rfl)
                have hq := (hX.drew1.later hS).at
                unfold frBox at hq
                refine .inl ⟨wanted_none rfl _, fun K hK => ?_⟩
                have HK := Lib.hid hK
                clear hd hFm hK
                go_simp
                exact HK.out _ _ rfl (Below.refl _ _)
              simp only [List.nil_append, List.cons_append]
              apply step_fix
              · intro a W Zs hS hFm hz hd
                have h4 := hFm.old 4 rfl
                conv at h4 => rhs; whnf
                replace h4 := ev_get hFm.size h4
                refine .inl ⟨wanted_none rfl _, fun K hK => ?_⟩
                have HK := Lib.hid hK
                clear hd hFm hK
                go_simp
                exact HK.out _ _ rfl (Below.refl _ _)
              simp only [List.nil_append, List.cons_append]
              apply step_fix
              · intro a W Zs hS hFm hz hd
                have h17 := hFm.old 17 rfl
                conv at h17 => rhs; whnf
                replace h17 := ev_get hFm.size h17
                have hq := (hD.drew1.later hS).at
                unfold confBox at hq
                refine .inl ⟨wanted_none rfl _, fun K hK => ?_⟩
                have HK := Lib.hid hK
                clear hd hFm hK
                go_simp
                exact HK.out _ _ rfl (Below.refl _ _)
              simp only [List.nil_append, List.cons_append]
              apply step_fix
              · intro a W Zs hS hFm hz hd
                have h74 := ev_get hFm.size (hd 3 74 rfl rfl)
                refine .inl ⟨wanted_none rfl _, fun K hK => ?_⟩
                have HK := Lib.hid hK
                clear hd hFm hK
                go_simp
                refine (HSl.out _).mono ?_
                rintro e W' ⟨rfl, hb⟩
                exact HK.out _ _ rfl hb
              simp only [List.nil_append, List.cons_append]
              apply step_fix
              · intro a W Zs hS hFm hz hd
                have h73 := ev_get hFm.size (hd 2 73 rfl rfl)
                have h75 := ev_get hFm.size (hd 4 75 rfl rfl)
                refine .inl ⟨wanted_none rfl _, fun K hK => ?_⟩
                have HK := Lib.hid hK
                clear hd hFm hK
                go_simp
                refine (HWs.out _).mono ?_
                rintro e W' ⟨rfl, rfl⟩
                exact HK.out _ _ rfl (Below.refl _ _)
              simp only [List.nil_append, List.cons_append]
              apply step_blk
              · intro a W Zs hS hFm hz hd
                have h72 := ev_get hFm.size (hd 1 72 rfl rfl)
                have h76 := ev_get hFm.size (hd 5 76 rfl rfl)
                refine .inl ⟨wanted_none rfl _, fun K hK => ?_⟩
                have HK := Lib.hid hK
                clear hd hFm hK
                go_simp
                exact HK.out _ _ ⟨_, rfl, Blk.new _ _ _, .inr (.inl ⟨Nat.le_refl _, by simp⟩)⟩ (alloc_below _ _)
              simp only [List.nil_append, List.cons_append]
              apply step_fix
              · intro a W Zs hS hFm hz hd
                have h23 := hFm.old 23 rfl
                conv at h23 => rhs; whnf
                replace h23 := ev_get hFm.size h23
                refine .inl ⟨wanted_none rfl _, fun K hK => ?_⟩
                have HK := Lib.hid hK
                clear hd hFm hK
                go_simp
                exact HK.out _ _ rfl (Below.refl _ _)
              simp only [List.nil_append, List.cons_append]
              apply step_ptr
              · intro a W Zs hS hFm hz hd
                obtain ⟨b77, e77, q77, f77⟩ := hd 6 77 rfl rfl
                have h77 := ev_get hFm.size e77
                have h78 := ev_get hFm.size (hd 7 78 rfl rfl)
                refine .inl ⟨wanted_none rfl _, fun K hK => ?_⟩
                have HK := Lib.hid hK
                clear hd hFm hK
                go_simp
                exact HK.out _ _ ⟨b77, rfl, q77, f77.imp id (foot_dep 6 rfl rfl rfl _)⟩ (Below.refl _ _)
              simp only [List.nil_append, List.cons_append]
              apply step_fix
              · intro a W Zs hS hFm hz hd
                obtain ⟨b79, e79, q79, f79⟩ := hd 8 79 rfl rfl
                have h79 := ev_get hFm.size e79
                have hq := q79.at
                refine .inl ⟨wanted_none rfl _, fun K hK => ?_⟩
                have HK := Lib.hid hK
                clear hd hFm hK
                go_simp
                exact HK.out _ _ rfl (Below.refl _ _)
              simp only [List.nil_append, List.cons_append]
              apply step_fix
              · intro a W Zs hS hFm hz hd
                have h80 := ev_get hFm.size (hd 9 80 rfl rfl)
                refine .inl ⟨wanted_none rfl _, fun K hK => ?_⟩
                have HK := Lib.hid hK
                clear hd hFm hK
                go_simp
                exact HK.out _ _ rfl (Below.refl _ _)
              simp only [List.nil_append, List.cons_append]
              intro a w5 Zs hS hFm hz hd
              have e24 := hd 10 24 (by decide) rfl
              have e0 := hFm.old 0 rfl
              conv at e0 => rhs; whnf
              have e1 := hFm.old 1 rfl
              conv at e1 => rhs; whnf
              have e2 := hFm.old 2 rfl
              conv at e2 => rhs; whnf
              have e3 := hFm.old 3 rfl
              conv at e3 => rhs; whnf
              have e4 := hFm.old 4 rfl
              conv at e4 => rhs; whnf
              have e5 := hFm.old 5 rfl
              conv at e5 => rhs; whnf
              have e6 := hFm.old 6 rfl
              conv at e6 => rhs; whnf
              have e7 := hFm.old 7 rfl
              conv at e7 => rhs; whnf
              have e8 := hFm.old 8 rfl
              conv at e8 => rhs; whnf
              have e9 := hFm.old 9 rfl
              conv at e9 => rhs; whnf
              have e10 := hFm.old 10 rfl
              conv at e10 => rhs; whnf
              have e11 := hFm.old 11 rfl
              conv at e11 => rhs; whnf
              have e12 := hFm.old 12 rfl
              conv at e12 => rhs; whnf
              have e13 := hFm.old 13 rfl
              conv at e13 => rhs; whnf
              have e14 := hFm.old 14 rfl
              conv at e14 => rhs; whnf
              have e15 := hFm.old 15 rfl
              conv at e15 => rhs; whnf
              have e16 := hFm.old 16 rfl
              conv at e16 => rhs; whnf
              have e17 := hFm.old 17 rfl
              conv at e17 => rhs; whnf
              have e18 := hFm.old 18 rfl
              conv at e18 => rhs; whnf
              have e19 := hFm.old 19 rfl
              conv at e19 => rhs; whnf
              have e20 := hFm.old 20 rfl
              conv at e20 => rhs; whnf
              have e21 := hFm.old 21 rfl
              conv at e21 => rhs; whnf
              have e22 := hFm.old 22 rfl
              conv at e22 => rhs; whnf
              have e23 := hFm.old 23 rfl
              conv at e23 => rhs; whnf
              have e25 := hFm.old 25 rfl
              conv at e25 => rhs; whnf
              have e26 := hFm.old 26 rfl
              conv at e26 => rhs; whnf
              have e27 := hFm.old 27 rfl
              conv at e27 => rhs; whnf
              have e28 := hFm.old 28 rfl
              conv at e28 => rhs; whnf
              have e29 := hFm.old 29 rfl
              conv at e29 => rhs; whnf
              have e30 := hFm.old 30 rfl
              conv at e30 => rhs; whnf
              have e31 := hFm.old 31 rfl
              conv at e31 => rhs; whnf
              have e32 := hFm.old 32 rfl
              conv at e32 => rhs; whnf
              have e33 := hFm.old 33 rfl
              conv at e33 => rhs; whnf
              have e34 := hFm.old 34 rfl
              conv at e34 => rhs; whnf
              have e35 := hFm.old 35 rfl
              conv at e35 => rhs; whnf
              have e36 := hFm.old 36 rfl
              conv at e36 => rhs; whnf
              have e37 := hFm.old 37 rfl
              conv at e37 => rhs; whnf
              have e38 := hFm.old 38 rfl
              conv at e38 => rhs; whnf
              have e39 := hFm.old 39 rfl
              conv at e39 => rhs; whnf
              have e40 := hFm.old 40 rfl
              conv at e40 => rhs; whnf
              have e41 := hFm.old 41 rfl
              conv at e41 => rhs; whnf
              have e42 := hFm.old 42 rfl
              conv at e42 => rhs; whnf
              have e43 := hFm.old 43 rfl
              conv at e43 => rhs; whnf
              have e44 := hFm.old 44 rfl
              conv at e44 => rhs; whnf
              have e45 := hFm.old 45 rfl
              conv at e45 => rhs; whnf
              have e46 := hFm.old 46 rfl
              conv at e46 => rhs; whnf
              have e47 := hFm.old 47 rfl
              conv at e47 => rhs; whnf
              have e48 := hFm.old 48 rfl
              conv at e48 => rhs; whnf
              have e49 := hFm.old 49 rfl
              conv at e49 => rhs; whnf
              have e50 := hFm.old 50 rfl
              conv at e50 => rhs; whnf
              have e51 := hFm.old 51 rfl
              conv at e51 => rhs; whnf
              have e52 := hFm.old 52 rfl
              conv at e52 => rhs; whnf
              have e53 := hFm.old 53 rfl
              conv at e53 => rhs; whnf
              have e54 := hFm.old 54 rfl
              conv at e54 => rhs; whnf
              have e55 := hFm.old 55 rfl
              conv at e55 => rhs; whnf
              have e56 := hFm.old 56 rfl
              conv at e56 => rhs; whnf
              have e57 := hFm.old 57 rfl
              conv at e57 => rhs; whnf
              have e58 := hFm.old 58 rfl
              conv at e58 => rhs; whnf
              have e59 := hFm.old 59 rfl
              conv at e59 => rhs; whnf
              have e60 := hFm.old 60 rfl
              conv at e60 => rhs; whnf
              have e61 := hFm.old 61 rfl
              conv at e61 => rhs; whnf
              have e62 := hFm.old 62 rfl
              conv at e62 => rhs; whnf
              have e63 := hFm.old 63 rfl
              conv at e63 => rhs; whnf
              have e64 := hFm.old 64 rfl
              conv at e64 => rhs; whnf
              have e65 := hFm.old 65 rfl
              conv at e65 => rhs; whnf
              have e66 := hFm.old 66 rfl
              conv at e66 => rhs; whnf
              have e67 := hFm.old 67 rfl
              conv at e67 => rhs; whnf
              have e68 := hFm.old 68 rfl
              conv at e68 => rhs; whnf
              have e69 := hFm.old 69 rfl
              conv at e69 => rhs; whnf
              have e70 := hFm.old 70 rfl
              conv at e70 => rhs; whnf
              have e81 := hFm.old 81 rfl
              conv at e81 => rhs; whnf
              have e82 := hFm.old 82 rfl
              conv at e82 => rhs; whnf
              have e83 := hFm.old 83 rfl
              conv at e83 => rhs; whnf
              have e84 := hFm.old 84 rfl
              conv at e84 => rhs; whnf
              have e85 := hFm.old 85 rfl
              conv at e85 => rhs; whnf
              have e86 := hFm.old 86 rfl
              conv at e86 => rhs; whnf
              have e87 := hFm.old 87 rfl
              conv at e87 => rhs; whnf
              have e88 := hFm.old 88 rfl
              conv at e88 => rhs; whnf
              have e89 := hFm.old 89 rfl
              conv at e89 => rhs; whnf
              have e90 := hFm.old 90 rfl
              conv at e90 => rhs; whnf
              have e91 := hFm.old 91 rfl
              conv at e91 => rhs; whnf
              have e92 := hFm.old 92 rfl
              conv at e92 => rhs; whnf
              have e93 := hFm.old 93 rfl
              conv at e93 => rhs; whnf
              have e94 := hFm.old 94 rfl
              conv at e94 => rhs; whnf
              have e95 := hFm.old 95 rfl
              conv at e95 => rhs; whnf
              have e96 := hFm.old 96 rfl
              conv at e96 => rhs; whnf
              have e97 := hFm.old 97 rfl
              conv at e97 => rhs; whnf
              have e98 := hFm.old 98 rfl
              conv at e98 => rhs; whnf
              have e99 := hFm.old 99 rfl
              conv at e99 => rhs; whnf
              have e100 := hFm.old 100 rfl
              conv at e100 => rhs; whnf
              have e101 := hFm.old 101 rfl
              conv at e101 => rhs; whnf
              have e102 := hFm.old 102 rfl
              conv at e102 => rhs; whnf
              have e103 := hFm.old 103 rfl
              conv at e103 => rhs; whnf
              have e104 := hFm.old 104 rfl
              conv at e104 => rhs; whnf
              have e105 := hFm.old 105 rfl
              conv at e105 => rhs; whnf
              have e106 := hFm.old 106 rfl
              conv at e106 => rhs; whnf
              have e107 := hFm.old 107 rfl
              conv at e107 => rhs; whnf
              have e108 := hFm.old 108 rfl
              conv at e108 => rhs; whnf
              have e109 := hFm.old 109 rfl
              conv at e109 => rhs; whnf
              have e110 := hFm.old 110 rfl
              conv at e110 => rhs; whnf
              have e111 := hFm.old 111 rfl
              conv at e111 => rhs; whnf
              have hsz := hFm.size
              have hdf := hFm.defers
              clear hd hFm
              obtain ⟨t, df⟩ := a
              simp only at hsz hdf
              subst hdf
              obtain ⟨x, hx⟩ : ∃ x : Nat → Value, ∀ i, t.getD i undef = x i := ⟨fun i => t.getD i undef, fun _ => rfl⟩
              have h24 := (hx 24).symm.trans e24
              have h0 := (hx 0).symm.trans e0
              have h1 := (hx 1).symm.trans e1
              have h2 := (hx 2).symm.trans e2
              have h3 := (hx 3).symm.trans e3
              have h4 := (hx 4).symm.trans e4
              have h5 := (hx 5).symm.trans e5
              have h6 := (hx 6).symm.trans e6
              have h7 := (hx 7).symm.trans e7
              have h8 := (hx 8).symm.trans e8
              have h9 := (hx 9).symm.trans e9
              have h10 := (hx 10).symm.trans e10
              have h11 := (hx 11).symm.trans e11
              have h12 := (hx 12).symm.trans e12
              have h13 := (hx 13).symm.trans e13
              have h14 := (hx 14).symm.trans e14
              have h15 := (hx 15).symm.trans e15
              have h16 := (hx 16).symm.trans e16
              have h17 := (hx 17).symm.trans e17
              have h18 := (hx 18).symm.trans e18
              have h19 := (hx 19).symm.trans e19
              have h20 := (hx 20).symm.trans e20
              have h21 := (hx 21).symm.trans e21
              have h22 := (hx 22).symm.trans e22
              have h23 := (hx 23).symm.trans e23
              have h25 := (hx 25).symm.trans e25
              have h26 := (hx 26).symm.trans e26
              have h27 := (hx 27).symm.trans e27
              have h28 := (hx 28).symm.trans e28
              have h29 := (hx 29).symm.trans e29
              have h30 := (hx 30).symm.trans e30
              have h31 := (hx 31).symm.trans e31
              have h32 := (hx 32).symm.trans e32
              have h33 := (hx 33).symm.trans e33
              have h34 := (hx 34).symm.trans e34
              have h35 := (hx 35).symm.trans e35
              have h36 := (hx 36).symm.trans e36
              have h37 := (hx 37).symm.trans e37
              have h38 := (hx 38).symm.trans e38
              have h39 := (hx 39).symm.trans e39
              have h40 := (hx 40).symm.trans e40
              have h41 := (hx 41).symm.trans e41
              have h42 := (hx 42).symm.trans e42
              have h43 := (hx 43).symm.trans e43
              have h44 := (hx 44).symm.trans e44
              have h45 := (hx 45).symm.trans e45
              have h46 := (hx 46).symm.trans e46
              have h47 := (hx 47).symm.trans e47
              have h48 := (hx 48).symm.trans e48
              have h49 := (hx 49).symm.trans e49
              have h50 := (hx 50).symm.trans e50
              have h51 := (hx 51).symm.trans e51
              have h52 := (hx 52).symm.trans e52
              have h53 := (hx 53).symm.trans e53
              have h54 := (hx 54).symm.trans e54
              have h55 := (hx 55).symm.trans e55
              have h56 := (hx 56).symm.trans e56
              have h57 := (hx 57).symm.trans e57
              have h58 := (hx 58).symm.trans e58
              have h59 := (hx 59).symm.trans e59
              have h60 := (hx 60).symm.trans e60
              have h61 := (hx 61).symm.trans e61
              have h62 := (hx 62).symm.trans e62
              have h63 := (hx 63).symm.trans e63
              have h64 := (hx 64).symm.trans e64
              have h65 := (hx 65).symm.trans e65
              have h66 := (hx 66).symm.trans e66
              have h67 := (hx 67).symm.trans e67
              have h68 := (hx 68).symm.trans e68
              have h69 := (hx 69).symm.trans e69
              have h70 := (hx 70).symm.trans e70
              have h81 := (hx 81).symm.trans e81
              have h82 := (hx 82).symm.trans e82
              have h83 := (hx 83).symm.trans e83
              have h84 := (hx 84).symm.trans e84
              have h85 := (hx 85).symm.trans e85
              have h86 := (hx 86).symm.trans e86
              have h87 := (hx 87).symm.trans e87
              have h88 := (hx 88).symm.trans e88
              have h89 := (hx 89).symm.trans e89
              have h90 := (hx 90).symm.trans e90
              have h91 := (hx 91).symm.trans e91
              have h92 := (hx 92).symm.trans e92
              have h93 := (hx 93).symm.trans e93
              have h94 := (hx 94).symm.trans e94
              have h95 := (hx 95).symm.trans e95
              have h96 := (hx 96).symm.trans e96
              have h97 := (hx 97).symm.trans e97
              have h98 := (hx 98).symm.trans e98
              have h99 := (hx 99).symm.trans e99
              have h100 := (hx 100).symm.trans e100
              have h101 := (hx 101).symm.trans e101
              have h102 := (hx 102).symm.trans e102
              have h103 := (hx 103).symm.trans e103
              have h104 := (hx 104).symm.trans e104
              have h105 := (hx 105).symm.trans e105
              have h106 := (hx 106).symm.trans e106
              have h107 := (hx 107).symm.trans e107
              have h108 := (hx 108).symm.trans e108
              have h109 := (hx 109).symm.trans e109
              have h110 := (hx 110).symm.trans e110
              have h111 := (hx 111).symm.trans e111
              have ht' : t = #[x 0, x 1, x 2, x 3, x 4, x 5, x 6, x 7, x 8, x 9, x 10, x 11, x 12, x 13, x 14, x 15, x 16, x 17, x 18, x 19, x 20, x 21, x 22, x 23, x 24, x 25, x 26, x 27, x 28, x 29, x 30, x 31, x 32, x 33, x 34, x 35, x 36, x 37, x 38, x 39, x 40, x 41, x 42, x 43, x 44, x 45, x 46, x 47, x 48, x 49, x 50, x 51, x 52, x 53, x 54, x 55, x 56, x 57, x 58, x 59, x 60, x 61, x 62, x 63, x 64, x 65, x 66, x 67, x 68, x 69, x 70, x 71, x 72, x 73, x 74, x 75, x 76, x 77, x 78, x 79, x 80, x 81, x 82, x 83, x 84, x 85, x 86, x 87, x 88, x 89, x 90, x 91, x 92, x 93, x 94, x 95, x 96, x 97, x 98, x 99, x 100, x 101, x 102, x 103, x 104, x 105, x 106, x 107, x 108, x 109, x 110, x 111] := frame_lit t 112 hsz x hx
              clear hx hsz hz e24 e0 e1 e2 e3 e4 e5 e6 e7 e8 e9 e10 e11 e12 e13 e14 e15 e16 e17 e18 e19 e20 e21 e22 e23 e25 e26 e27 e28 e29 e30 e31 e32 e33 e34 e35 e36 e37 e38 e39 e40 e41 e42 e43 e44 e45 e46 e47 e48 e49 e50 e51 e52 e53 e54 e55 e56 e57 e58 e59 e60 e61 e62 e63 e64 e65 e66 e67 e68 e69 e70 e81 e82 e83 e84 e85 e86 e87 e88 e89 e90 e91 e92 e93 e94 e95 e96 e97 e98 e99 e100 e101 e102 e103 e104 e105 e106 e107 e108 e109 e110 e111
              subst ht'
              (try dsimp only)
              rw [h24, h0, h1, h2, h3, h4, h5, h6, h7, h8, h9, h10, h11, h12, h13, h14, h15, h16, h17, h18, h19, h20, h21, h22, h23, h25, h26, h27, h28, h29, h30, h31, h32, h33, h34, h35, h36, h37, h38, h39, h40, h41, h42, h43, h44, h45, h46, h47, h48, h49, h50, h51, h52, h53, h54, h55, h56, h57, h58, h59, h60, h61, h62, h63, h64, h65, h66, h67, h68, h69, h70, h81, h82, h83, h84, h85, h86, h87, h88, h89, h90, h91, h92, h93, h94, h95, h96, h97, h98, h99, h100, h101, h102, h103, h104, h105, h106, h107, h108, h109, h110, h111]
              clear h24 h0 h1 h2 h3 h4 h5 h6 h7 h8 h9 h10 h11 h12 h13 h14 h15 h16 h17 h18 h19 h20 h21 h22 h23 h25 h26 h27 h28 h29 h30 h31 h32 h33 h34 h35 h36 h37 h38 h39 h40 h41 h42 h43 h44 h45 h46 h47 h48 h49 h50 h51 h52 h53 h54 h55 h56 h57 h58 h59 h60 h61 h62 h63 h64 h65 h66 h67 h68 h69 h70 h81 h82 h83 h84 h85 h86 h87 h88 h89 h90 h91 h92 h93 h94 h95 h96 h97 h98 h99 h100 h101 h102 h103 h104 h105 h106 h107 h108 h109 h110 h111
              rw [undef_fold]
              have hb := from_drew hS
              replace hM := hM.later hb
              clear hS hb hD hX
              have hD := hM.hD
              have hrd := hM.hrd
              have hL := hM.hL
              have hB := hM.hB
              have HR1 := Lib.hid (HRd.out u (sl % sn) hu)
              have HR2 := Lib.hid (HRr.out u (sl % sn) hu)
              obtain ⟨A5, q5, hA⟩ : ∃ A q, rightA d r (sl % sn) u = (A, q) := ⟨_, _, rfl⟩
              rw [hA] at HR1 HR2
              clear hA
              go_upto_region 19 with fail
              refine region_slots [some 82, some 83, some 84, some 85, some 86, some 87, some 88, some 89, some 81, some 90, some 91, some 25, none, some 26] [none, none, none, none, none, none, none, none, none, none, none, none, some 11, none] 112 14 rfl (by kernel_rfl) (by kernel_rfl) rfl rfl ?_
              apply step_fix
              · intro a W Zs hS hFm hz hd
                have h17 := hFm.old 17 rfl
                conv at h17 => rhs; whnf
                replace h17 := ev_get hFm.size h17
                have hq := (hD.drew1.later hS).at
                unfold confBox at hq
                refine .inl ⟨wanted_none rfl _, fun K hK => ?_⟩
                have HK := Lib.hid hK
                clear hd hFm hK
                go_simp
                exact HK.out _ _ rfl (Below.refl _ _)
              simp only [List.nil_append, List.cons_append]
              apply step_fix
              · intro a W Zs hS hFm hz hd
                have h18 := hFm.old 18 rfl
                conv at h18 => rhs; whnf
                replace h18 := ev_get hFm.size h18
                refine .inl ⟨wanted_none rfl _, fun K hK => ?_⟩
                have HK := Lib.hid hK
                clear hd hFm hK
                go_simp
                exact HK.out _ _ rfl (Below.refl _ _)
              simp only [List.nil_append, List.cons_append]
              apply step_fix
              · intro a W Zs hS hFm hz hd
                have h24 := hFm.old 24 rfl
                conv at h24 => rhs; whnf
                replace h24 := ev_get hFm.size h24
                refine .inl ⟨wanted_none rfl _, fun K hK => ?_⟩
                have HK := Lib.hid hK
                clear hd hFm hK
                go_simp
                exact HK.out _ _ rfl (Below.refl _ _)
              simp only [List.nil_append, List.cons_append]
              apply step_fix
              · intro a W Zs hS hFm hz hd
                have h21 := hFm.old 21 rfl
                conv at h21 => rhs; whnf
                replace h21 := ev_get hFm.size h21
                refine .inl ⟨wanted_none rfl _, fun K hK => ?_⟩
                have HK := Lib.hid hK
                clear hd hFm hK
                go_simp
                exact HK.out _ _ rfl (Below.refl _ _)
              simp only [List.nil_append, List.cons_append]
              apply step_fix
              · intro a W Zs hS hFm hz hd
                have h22 := hFm.old 22 rfl
                conv at h22 => rhs; whnf
                replace h22 := ev_get hFm.size h22
                refine .inl ⟨wanted_none rfl _, fun K hK => ?_⟩
                have HK := Lib.hid hK
                clear hd hFm hK
                go_simp
                exact HK.out _ _ rfl (Below.refl _ _)
              simp only [List.nil_append, List.cons_append]
              apply step_fix
              · intro a W Zs hS hFm hz hd
                have h85 := ev_get hFm.size (hd 3 85 rfl rfl)
                have h86 := ev_get hFm.size (hd 4 86 rfl rfl)
                refine .inl ⟨wanted_none rfl _, fun K hK => ?_⟩
                have HK := Lib.hid hK
                clear hd hFm hK
                go_simp
                exact HK.out _ _ rfl (Below.refl _ _)
              simp only [List.nil_append, List.cons_append]
              apply step_fix
              · intro a W Zs hS hFm hz hd
                have h87 := ev_get hFm.size (hd 5 87 rfl rfl)
                have hq := HCU.out _ (hL.drew1.later hS)
                refine .inl ⟨wanted_none rfl _, fun K hK => ?_⟩
                have HK := Lib.hid hK
                clear hd hFm hK
                go_simp
                exact HK.out _ _ rfl (Below.refl _ _)
              simp only [List.nil_append, List.cons_append]
              refine step_of (rbF _ (A5) (q5)) (rbF_good _ _ _) ?_ ?_
              · intro a W Zs hS hFm hz hd
                have h82 := ev_get hFm.size (hd 0 82 rfl rfl)
                have h83 := ev_get hFm.size (hd 1 83 rfl rfl)
                have h84 := ev_get hFm.size (hd 2 84 rfl rfl)
                have h88 := ev_get hFm.size (hd 6 88 rfl rfl)
                refine .inl ⟨wanted_none rfl _, fun K hK => ?_⟩
                have HK := Lib.hid hK
                clear hd hFm hK
                go_simp
                refine (HR1.out _ ((hbd.later hB).later (from_drew hS)) (hrd.later (from_drew hS))).mono ?_
                rintro e W' ⟨ra, rc, rfl, hr, hfr, hb⟩
                exact HK.out _ _ ⟨ra, rc, rfl, hr, hr.foot hfr⟩ hb
              simp only [List.nil_append, List.cons_append]
              refine step_of (rbF _ (A5) (q5)) (rbF_good _ _ _) ?_ ?_
              · intro a W Zs hS hFm hz hd
                obtain ⟨a89, c89, e89, r89, f89⟩ := hd 7 89 rfl rfl
                have h89 := ev_get hFm.size e89
                refine .inl ⟨wanted_none rfl _, fun K hK => ?_⟩
                have HK := Lib.hid hK
                clear hd hFm hK
                go_simp
                exact HK.out _ _ ⟨a89, c89, rfl, r89, ft_mono f89 (foot_dep 7 rfl rfl rfl)⟩ (Below.refl _ _)
              simp only [List.nil_append, List.cons_append]
              refine step_of (frF _ (A5)) (frF_good _ _) ?_ ?_
              · intro a W Zs hS hFm hz hd
                obtain ⟨a81, c81, e81, r81, f81⟩ := hd 8 81 rfl rfl
                have h81 := ev_get hFm.size e81
                refine .inl ⟨wanted_none rfl _, fun K hK => ?_⟩
                have HK := Lib.hid hK
                clear hd hFm hK
                go_simp
                exact HK.out _ _ ⟨a81, c81, rfl, r81, ft_mono f81 (foot_dep 8 rfl rfl rfl)⟩ (Below.refl _ _)
              simp only [List.nil_append, List.cons_append]
              apply step_fix
              · intro a W Zs hS hFm hz hd
                obtain ⟨a81, c81, e81, r81, f81⟩ := hd 8 81 rfl rfl
                have h81 := ev_get hFm.size e81
                refine .inl ⟨wanted_none rfl _, fun K hK => ?_⟩
                have HK := Lib.hid hK
                clear hd hFm hK
                go_simp
                exact HK.out _ _ rfl (Below.refl _ _)
              simp only [List.nil_append, List.cons_append]
              refine step_of (boxF _ 29 6) (boxF_good _ _ _) ?_ ?_
              · intro a W Zs hS hFm hz hd
                refine .inl ⟨wanted_none rfl _, fun K hK => ?_⟩
                have HK := Lib.hid hK
                clear hd hFm hK
                go_simp
                exact HK.out _ _ ⟨_, _, rfl, rfl, Blk.new _ _ _, .inl ⟨Nat.le_refl _, by simp⟩⟩ (alloc_below _ _)
              simp only [List.nil_append, List.cons_append]
              refine step_of (frBoxF _ (A5)) (frBoxF_good _ _) ?_ ?_
              · intro a W Zs hS hFm hz hd hap
                obtain ⟨b25, cs25, e25, n25, q25, z25⟩ := hd 11 25 rfl rfl
                have h25 := ev_get hFm.size e25
                obtain ⟨a90, c90, e90, r90, f90⟩ := hd 9 90 rfl rfl
                have h90 := ev_get hFm.size e90
                have hB0 := (hz 11 _ rfl z25).1
                obtain ⟨u0, u1, u2, u3, u4, u5, rfl⟩ := arr6 n25
                have hq := q25.at
                have hfz := q25.frozen
                refine ⟨wanted_none rfl _, b25, z25, fun K hK => ?_⟩
                have HK := Lib.hid hK
                clear hd hFm hK
                go_simp
                exact HK.out undef _ (Only.fill6 _ _ _ _ _ _ _ _) (fun d hd' => by injection hd' with hd'; subst hd'; exact ⟨⟨b25, a90, c90, e25, q25.fill6 _ _ _ _ _ _, r90.agree f90 (store_apart (Only.fill6 W b25 _ _ _ _ _ _) hB0 z25 hap 9 rfl (by decide)), .inr (.inl rfl), ft_mono f90 (foot_depS 9 rfl rfl rfl)⟩, ⟨b25, _, e25, rfl, q25.fill6 _ _ _ _ _ _, z25⟩⟩)
              simp only [List.nil_append, List.cons_append]
              apply step_fix
              · intro a W Zs hS hFm hz hd
                have h91 := ev_get hFm.size (hd 10 91 rfl rfl)
                refine .inl ⟨wanted_none rfl _, fun K hK => ?_⟩
                have HK := Lib.hid hK
                clear hd hFm hK
                go_simp
                exact HK.out _ _ rfl (Below.refl _ _)
              simp only [List.nil_append, List.cons_append]
              intro a w6 Zs hS hFm hz hd
              obtain ⟨b25, a25, c25, e25, q25, r25, f25, g25⟩ := hd 12 25 (by decide) rfl
              obtain ⟨bz, csz, ez, nz, qz, zz⟩ := hd 11 25 (by decide) rfl
              have nb25 := ptr_new ez e25 (hz 11 (by decide) bz zz)
              clear zz qz nz ez
              clear csz bz
              have e26 := hd 13 26 (by decide) rfl
              have e0 := hFm.old 0 rfl
              conv at e0 => rhs; whnf
              have e1 := hFm.old 1 rfl
              conv at e1 => rhs; whnf
              have e2 := hFm.old 2 rfl
              conv at e2 => rhs; whnf
              have e3 := hFm.old 3 rfl
              conv at e3 => rhs; whnf
              have e4 := hFm.old 4 rfl
              conv at e4 => rhs; whnf
              have e5 := hFm.old 5 rfl
              conv at e5 => rhs; whnf
              have e6 := hFm.old 6 rfl
              conv at e6 => rhs; whnf
              have e7 := hFm.old 7 rfl
              conv at e7 => rhs; whnf
              have e8 := hFm.old 8 rfl
              conv at e8 => rhs; whnf
              have e9 := hFm.old 9 rfl
              conv at e9 => rhs; whnf
              have e10 := hFm.old 10 rfl
              conv at e10 => rhs; whnf
              have e11 := hFm.old 11 rfl
              conv at e11 => rhs; whnf
              have e12 := hFm.old 12 rfl
              conv at e12 => rhs; whnf
              have e13 := hFm.old 13 rfl
              conv at e13 => rhs; whnf
              have e14 := hFm.old 14 rfl
              conv at e14 => rhs; whnf
              have e15 := hFm.old 15 rfl
              conv at e15 => rhs; whnf
              have e16 := hFm.old 16 rfl
              conv at e16 => rhs; whnf
              have e17 := hFm.old 17 rfl
              conv at e17 => rhs; whnf
              have e18 := hFm.old 18 rfl
              conv at e18 => rhs; whnf
              have e19 := hFm.old 19 rfl
              conv at e19 => rhs; whnf
              have e20 := hFm.old 20 rfl
              conv at e20 => rhs; whnf
              have e21 := hFm.old 21 rfl
              conv at e21 => rhs; whnf
              have e22 := hFm.old 22 rfl
              conv at e22 => rhs; whnf
              have e23 := hFm.old 23 rfl
              conv at e23 => rhs; whnf
              have e24 := hFm.old 24 rfl
              conv at e24 => rhs; whnf
              have e27 := hFm.old 27 rfl
              conv at e27 => rhs; whnf
              have e28 := hFm.old 28 rfl
              conv at e28 => rhs; whnf
              have e29 := hFm.old 29 rfl
              conv at e29 => rhs; whnf
              have e30 := hFm.old 30 rfl
              conv at e30 => rhs; whnf
              have e31 := hFm.old 31 rfl
              conv at e31 => rhs; whnf
              have e32 := hFm.old 32 rfl
              conv at e32 => rhs; whnf
              have e33 := hFm.old 33 rfl
              conv at e33 => rhs; whnf
              have e34 := hFm.old 34 rfl
              conv at e34 => rhs; whnf
              have e35 := hFm.old 35 rfl
              conv at e35 => rhs; whnf
              have e36 := hFm.old 36 rfl
              conv at e36 => rhs; whnf
              have e37 := hFm.old 37 rfl
              conv at e37 => rhs; whnf
              have e38 := hFm.old 38 rfl
              conv at e38 => rhs; whnf
              have e39 := hFm.old 39 rfl
              conv at e39 => rhs; whnf
              have e40 := hFm.old 40 rfl
              conv at e40 => rhs; whnf
              have e41 := hFm.old 41 rfl
              conv at e41 => rhs; whnf
              have e42 := hFm.old 42 rfl
              conv at e42 => rhs; whnf
              have e43 := hFm.old 43 rfl
              conv at e43 => rhs; whnf
              have e44 := hFm.old 44 rfl
              conv at e44 => rhs; whnf
              have e45 := hFm.old 45 rfl
              conv at e45 => rhs; whnf
              have e46 := hFm.old 46 rfl
              conv at e46 => rhs; whnf
              have e47 := hFm.old 47 rfl
              conv at e47 => rhs; whnf
              have e48 := hFm.old 48 rfl
              conv at e48 => rhs; whnf
              have e49 := hFm.old 49 rfl
              conv at e49 => rhs; whnf
              have e50 := hFm.old 50 rfl
              conv at e50 => rhs; whnf
              have e51 := hFm.old 51 rfl
              conv at e51 => rhs; whnf
              have e52 := hFm.old 52 rfl
              conv at e52 => rhs; whnf
              have e53 := hFm.old 53 rfl
              conv at e53 => rhs; whnf
              have e54 := hFm.old 54 rfl
              conv at e54 => rhs; whnf
              have e55 := hFm.old 55 rfl
              conv at e55 => rhs; whnf
              have e56 := hFm.old 56 rfl
              conv at e56 => rhs; whnf
              have e57 := hFm.old 57 rfl
              conv at e57 => rhs; whnf
              have e58 := hFm.old 58 rfl
              conv at e58 => rhs; whnf
              have e59 := hFm.old 59 rfl
              conv at e59 => rhs; whnf
              have e60 := hFm.old 60 rfl
              conv at e60 => rhs; whnf
              have e61 := hFm.old 61 rfl
              conv at e61 => rhs; whnf
              have e62 := hFm.old 62 rfl
              conv at e62 => rhs; whnf
              have e63 := hFm.old 63 rfl
              conv at e63 => rhs; whnf
              have e64 := hFm.old 64 rfl
              conv at e64 => rhs; whnf
              have e65 := hFm.old 65 rfl
              conv at e65 => rhs; whnf
              have e66 := hFm.old 66 rfl
              conv at e66 => rhs; whnf
              have e67 := hFm.old 67 rfl
              conv at e67 => rhs; whnf
              have e68 := hFm.old 68 rfl
              conv at e68 => rhs; whnf
              have e69 := hFm.old 69 rfl
              conv at e69 => rhs; whnf
              have e70 := hFm.old 70 rfl
              conv at e70 => rhs; whnf
              have e71 := hFm.old 71 rfl
              conv at e71 => rhs; whnf
              have e72 := hFm.old 72 rfl
              conv at e72 => rhs; whnf
              have e73 := hFm.old 73 rfl
              conv at e73 => rhs; whnf
              have e74 := hFm.old 74 rfl
              conv at e74 => rhs; whnf
              have e75 := hFm.old 75 rfl
              conv at e75 => rhs; whnf
              have e76 := hFm.old 76 rfl
              conv at e76 => rhs; whnf
              have e77 := hFm.old 77 rfl
              conv at e77 => rhs; whnf
              have e78 := hFm.old 78 rfl
              conv at e78 => rhs; whnf
              have e79 := hFm.old 79 rfl
              conv at e79 => rhs; whnf
              have e80 := hFm.old 80 rfl
              conv at e80 => rhs; whnf
              have e92 := hFm.old 92 rfl
              conv at e92 => rhs; whnf
              have e93 := hFm.old 93 rfl
              conv at e93 => rhs; whnf
              have e94 := hFm.old 94 rfl
              conv at e94 => rhs; whnf
              have e95 := hFm.old 95 rfl
              conv at e95 => rhs; whnf
              have e96 := hFm.old 96 rfl
              conv at e96 => rhs; whnf
              have e97 := hFm.old 97 rfl
              conv at e97 => rhs; whnf
              have e98 := hFm.old 98 rfl
              conv at e98 => rhs; whnf
              have e99 := hFm.old 99 rfl
              conv at e99 => rhs; whnf
              have e100 := hFm.old 100 rfl
              conv at e100 => rhs; whnf
              have e101 := hFm.old 101 rfl
              conv at e101 => rhs; whnf
              have e102 := hFm.old 102 rfl
              conv at e102 => rhs; whnf
              have e103 := hFm.old 103 rfl
              conv at e103 => rhs; whnf
              have e104 := hFm.old 104 rfl
              conv at e104 => rhs; whnf
              have e105 := hFm.old 105 rfl
              conv at e105 => rhs; whnf
              have e106 := hFm.old 106 rfl
              conv at e106 => rhs; whnf
              have e107 := hFm.old 107 rfl
              conv at e107 => rhs; whnf
              have e108 := hFm.old 108 rfl
              conv at e108 => rhs; whnf
              have e109 := hFm.old 109 rfl
              conv at e109 => rhs; whnf
              have e110 := hFm.old 110 rfl
              conv at e110 => rhs; whnf
              have e111 := hFm.old 111 rfl
              conv at e111 => rhs; whnf
              have hsz := hFm.size
              have hdf := hFm.defers
              clear hd hFm
              obtain ⟨t, df⟩ := a
              simp only at hsz hdf
              subst hdf
              obtain ⟨x, hx⟩ : ∃ x : Nat → Value, ∀ i, t.getD i undef = x i := ⟨fun i => t.getD i undef, fun _ => rfl⟩
              have h25 := (hx 25).symm.trans e25
              have h26 := (hx 26).symm.trans e26
              have h0 := (hx 0).symm.trans e0
              have h1 := (hx 1).symm.trans e1
              have h2 := (hx 2).symm.trans e2
              have h3 := (hx 3).symm.trans e3
              have h4 := (hx 4).symm.trans e4
              have h5 := (hx 5).symm.trans e5
              have h6 := (hx 6).symm.trans e6
              have h7 := (hx 7).symm.trans e7
              have h8 := (hx 8).symm.trans e8
              have h9 := (hx 9).symm.trans e9
              have h10 := (hx 10).symm.trans e10
              have h11 := (hx 11).symm.trans e11
              have h12 := (hx 12).symm.trans e12
              have h13 := (hx 13).symm.trans e13
              have h14 := (hx 14).symm.trans e14
              have h15 := (hx 15).symm.trans e15
              have h16 := (hx 16).symm.trans e16
              have h17 := (hx 17).symm.trans e17
              have h18 := (hx 18).symm.trans e18
              have h19 := (hx 19).symm.trans e19
              have h20 := (hx 20).symm.trans e20
              have h21 := (hx 21).symm.trans e21
              have h22 := (hx 22).symm.trans e22
              have h23 := (hx 23).symm.trans e23
              have h24 := (hx 24).symm.trans e24
              have h27 := (hx 27).symm.trans e27
              have h28 := (hx 28).symm.trans e28
              have h29 := (hx 29).symm.trans e29
              have h30 := (hx 30).symm.trans e30
              have h31 := (hx 31).symm.trans e31
              have h32 := (hx 32).symm.trans e32
              have h33 := (hx 33).symm.trans e33
              have h34 := (hx 34).symm.trans e34
              have h35 := (hx 35).symm.trans e35
              have h36 := (hx 36).symm.trans e36
              have h37 := (hx 37).symm.trans e37
              have h38 := (hx 38).symm.trans e38
              have h39 := (hx 39).symm.trans e39
              have h40 := (hx 40).symm.trans e40
              have h41 := (hx 41).symm.trans e41
              have h42 := (hx 42).symm.trans e42
              have h43 := (hx 43).symm.trans e43
              have h44 := (hx 44).symm.trans e44
              have h45 := (hx 45).symm.trans e45
              have h46 := (hx 46).symm.trans e46
              have h47 := (hx 47).symm.trans e47
              have h48 := (hx 48).symm.trans e48
              have h49 := (hx 49).symm.trans e49
              have h50 := (hx 50).symm.trans e50
              have h51 := (hx 51).symm.trans e51
              have h52 := (hx 52).symm.trans e52
              have h53 := (hx 53).symm.trans e53
              have h54 := (hx 54).symm.trans e54
              have h55 := (hx 55).symm.trans e55
              have h56 := (hx 56).symm.trans e56
              have h57 := (hx 57).symm.trans e57
              have h58 := (hx 58).symm.trans e58
              have h59 := (hx 59).symm.trans e59
              have h60 := (hx 60).symm.trans e60
              have h61 := (hx 61).symm.trans e61
              have h62 := (hx 62).symm.trans e62
              have h63 := (hx 63).symm.trans e63
              have h64 := (hx 64).symm.trans e64
              have h65 := (hx 65).symm.trans e65
              have h66 := (hx 66).symm.trans e66
              have h67 := (hx 67).symm.trans e67
              have h68 := (hx 68).symm.trans e68
              have h69 := (hx 69).symm.trans e69
              have h70 := (hx 70).symm.trans e70
              have h71 := (hx 71).symm.trans e71
              have h72 := (hx 72).symm.trans e72
              have h73 := (hx 73).symm.trans e73
              have h74 := (hx 74).symm.trans e74
              have h75 := (hx 75).symm.trans e75
              have h76 := (hx 76).symm.trans e76
              have h77 := (hx 77).symm.trans e77
              have h78 := (hx 78).symm.trans e78
              have h79 := (hx 79).symm.trans e79
              have h80 := (hx 80).symm.trans e80
              have h92 := (hx 92).symm.trans e92
              have h93 := (hx 93).symm.trans e93
              have h94 := (hx 94).symm.trans e94
              have h95 := (hx 95).symm.trans e95
              have h96 := (hx 96).symm.trans e96
              have h97 := (hx 97).symm.trans e97
              have h98 := (hx 98).symm.trans e98
              have h99 := (hx 99).symm.trans e99
              have h100 := (hx 100).symm.trans e100
              have h101 := (hx 101).symm.trans e101
              have h102 := (hx 102).symm.trans e102
              have h103 := (hx 103).symm.trans e103
              have h104 := (hx 104).symm.trans e104
              have h105 := (hx 105).symm.trans e105
              have h106 := (hx 106).symm.trans e106
              have h107 := (hx 107).symm.trans e107
              have h108 := (hx 108).symm.trans e108
              have h109 := (hx 109).symm.trans e109
              have h110 := (hx 110).symm.trans e110
              have h111 := (hx 111).symm.trans e111
              have ht' : t = #[x 0, x 1, x 2, x 3, x 4, x 5, x 6, x 7, x 8, x 9, x 10, x 11, x 12, x 13, x 14, x 15, x 16, x 17, x 18, x 19, x 20, x 21, x 22, x 23, x 24, x 25, x 26, x 27, x 28, x 29, x 30, x 31, x 32, x 33, x 34, x 35, x 36, x 37, x 38, x 39, x 40, x 41, x 42, x 43, x 44, x 45, x 46, x 47, x 48, x 49, x 50, x 51, x 52, x 53, x 54, x 55, x 56, x 57, x 58, x 59, x 60, x 61, x 62, x 63, x 64, x 65, x 66, x 67, x 68, x 69, x 70, x 71, x 72, x 73, x 74, x 75, x 76, x 77, x 78, x 79, x 80, x 81, x 82, x 83, x 84, x 85, x 86, x 87, x 88, x 89, x 90, x 91, x 92, x 93, x 94, x 95, x 96, x 97, x 98, x 99, x 100, x 101, x 102, x 103, x 104, x 105, x 106, x 107, x 108, x 109, x 110, x 111] := frame_lit t 112 hsz x hx
              clear hx hsz hz e25 e26 e0 e1 e2 e3 e4 e5 e6 e7 e8 e9 e10 e11 e12 e13 e14 e15 e16 e17 e18 e19 e20 e21 e22 e23 e24 e27 e28 e29 e30 e31 e32 e33 e34 e35 e36 e37 e38 e39 e40 e41 e42 e43 e44 e45 e46 e47 e48 e49 e50 e51 e52 e53 e54 e55 e56 e57 e58 e59 e60 e61 e62 e63 e64 e65 e66 e67 e68 e69 e70 e71 e72 e73 e74 e75 e76 e77 e78 e79 e80 e92 e93 e94 e95 e96 e97 e98 e99 e100 e101 e102 e103 e104 e105 e106 e107 e108 e109 e110 e111
              subst ht'
              (try dsimp only)
              rw [h25, h26, h0, h1, h2, h3, h4, h5, h6, h7, h8, h9, h10, h11, h12, h13, h14, h15, h16, h17, h18, h19, h20, h21, h22, h23, h24, h27, h28, h29, h30, h31, h32, h33, h34, h35, h36, h37, h38, h39, h40, h41, h42, h43, h44, h45, h46, h47, h48, h49, h50, h51, h52, h53, h54, h55, h56, h57, h58, h59, h60, h61, h62, h63, h64, h65, h66, h67, h68, h69, h70, h71, h72, h73, h74, h75, h76, h77, h78, h79, h80, h92, h93, h94, h95, h96, h97, h98, h99, h100, h101, h102, h103, h104, h105, h106, h107, h108, h109, h110, h111]
              clear h25 h26 h0 h1 h2 h3 h4 h5 h6 h7 h8 h9 h10 h11 h12 h13 h14 h15 h16 h17 h18 h19 h20 h21 h22 h23 h24 h27 h28 h29 h30 h31 h32 h33 h34 h35 h36 h37 h38 h39 h40 h41 h42 h43 h44 h45 h46 h47 h48 h49 h50 h51 h52 h53 h54 h55 h56 h57 h58 h59 h60 h61 h62 h63 h64 h65 h66 h67 h68 h69 h70 h71 h72 h73 h74 h75 h76 h77 h78 h79 h80 h92 h93 h94 h95 h96 h97 h98 h99 h100 h101 h102 h103 h104 h105 h106 h107 h108 h109 h110 h111
              rw [undef_fold]
              have hb := from_drew hS
              replace hM := hM.later hb
              have hE := q25
              have hrE := r25
              clear hS hb hD hrd hL hB q25 r25 f25 g25 nb25 HR1
              have hD := hM.hD
              have hrd := hM.hrd
              have hL := hM.hL
              go_upto_region 20 with fail
              refine region_slots [some 93, some 94, some 95, some 96, some 97, some 98, some 99, some 100, some 92, some 101, some 102, some 27, none, some 28] [none, none, none, none, none, none, none, none, none, none, none, none, some 11, none] 112 14 rfl (by kernel_rfl) (by kernel_rfl) rfl rfl ?_
              apply step_fix
              · intro a W Zs hS hFm hz hd
                have h17 := hFm.old 17 rfl
                conv at h17 => rhs; whnf
                replace h17 := ev_get hFm.size h17
                have hq := (hD.drew1.later hS).at
                unfold confBox at hq
                refine .inl ⟨wanted_none rfl _, fun K hK => ?_⟩
                have HK := Lib.hid hK
                clear hd hFm hK
                go_simp
                exact HK.out _ _ rfl (Below.refl _ _)
              simp only [List.nil_append, List.cons_append]
              apply step_fix
              · intro a W Zs hS hFm hz hd
                have h18 := hFm.old 18 rfl
                conv at h18 => rhs; whnf
                replace h18 := ev_get hFm.size h18
                refine .inl ⟨wanted_none rfl _, fun K hK => ?_⟩
                have HK := Lib.hid hK
                clear hd hFm hK
                go_simp
                exact HK.out _ _ rfl (Below.refl _ _)
              simp only [List.nil_append, List.cons_append]
              apply step_fix
              · intro a W Zs hS hFm hz hd
                have h24 := hFm.old 24 rfl
                conv at h24 => rhs; whnf
                replace h24 := ev_get hFm.size h24
                refine .inl ⟨wanted_none rfl _, fun K hK => ?_⟩
                have HK := Lib.hid hK
                clear hd hFm hK
                go_simp
                exact HK.out _ _ rfl (Below.refl _ _)
              simp only [List.nil_append, List.cons_append]
              apply step_fix
              · intro a W Zs hS hFm hz hd
                have h21 := hFm.old 21 rfl
                conv at h21 => rhs; whnf
                replace h21 := ev_get hFm.size h21
                refine .inl ⟨wanted_none rfl _, fun K hK => ?_⟩
                have HK := Lib.hid hK
                clear hd hFm hK
                go_simp
                exact HK.out _ _ rfl (Below.refl _ _)
              simp only [List.nil_append, List.cons_append]
              apply step_fix
              · intro a W Zs hS hFm hz hd
                have h22 := hFm.old 22 rfl
                conv at h22 => rhs; whnf
                replace h22 := ev_get hFm.size h22
                refine .inl ⟨wanted_none rfl _, fun K hK => ?_⟩
                have HK := Lib.hid hK
                clear hd hFm hK
                go_simp
                exact HK.out _ _ rfl (Below.refl _ _)
              simp only [List.nil_append, List.cons_append]
              apply step_fix
              · intro a W Zs hS hFm hz hd
                have h96 := ev_get hFm.size (hd 3 96 rfl rfl)
                have h97 := ev_get hFm.size (hd 4 97 rfl rfl)
                refine .inl ⟨wanted_none rfl _, fun K hK => ?_⟩
                have HK := Lib.hid hK
                clear hd hFm hK
                go_simp
                exact HK.out _ _ rfl (Below.refl _ _)
              simp only [List.nil_append, List.cons_append]
              apply step_fix
              · intro a W Zs hS hFm hz hd
                have h98 := ev_get hFm.size (hd 5 98 rfl rfl)
                have hq := HCU.out _ (hL.drew1.later hS)
                refine .inl ⟨wanted_none rfl _, fun K hK => ?_⟩
                have HK := Lib.hid hK
                clear hd hFm hK
                go_simp
                exact HK.out _ _ rfl (Below.refl _ _)
              simp only [List.nil_append, List.cons_append]
              refine step_of (rbF _ (A5) (q5)) (rbF_good _ _ _) ?_ ?_
              · intro a W Zs hS hFm hz hd
                have h93 := ev_get hFm.size (hd 0 93 rfl rfl)
                have h94 := ev_get hFm.size (hd 1 94 rfl rfl)
                have h95 := ev_get hFm.size (hd 2 95 rfl rfl)
                have h99 := ev_get hFm.size (hd 6 99 rfl rfl)
                refine .inl ⟨wanted_none rfl _, fun K hK => ?_⟩
                have HK := Lib.hid hK
                clear hd hFm hK
                go_simp
                refine (HR2.out _ (hrd.later (from_drew hS))).mono ?_
                rintro e W' ⟨ra, rc, rfl, hr, hfr, hb⟩
                exact HK.out _ _ ⟨ra, rc, rfl, hr, hr.foot hfr⟩ hb
              simp only [List.nil_append, List.cons_append]
              refine step_of (rbF _ (A5) (q5)) (rbF_good _ _ _) ?_ ?_
              · intro a W Zs hS hFm hz hd
                obtain ⟨a100, c100, e100, r100, f100⟩ := hd 7 100 rfl rfl
                have h100 := ev_get hFm.size e100
                refine .inl ⟨wanted_none rfl _, fun K hK => ?_⟩
                have HK := Lib.hid hK
                clear hd hFm hK
                go_simp
                exact HK.out _ _ ⟨a100, c100, rfl, r100, ft_mono f100 (foot_dep 7 rfl rfl rfl)⟩ (Below.refl _ _)
              simp only [List.nil_append, List.cons_append]
              refine step_of (frF _ (A5)) (frF_good _ _) ?_ ?_
              · intro a W Zs hS hFm hz hd
                obtain ⟨a92, c92, e92, r92, f92⟩ := hd 8 92 rfl rfl
                have h92 := ev_get hFm.size e92
                refine .inl ⟨wanted_none rfl _, fun K hK => ?_⟩
                have HK := Lib.hid hK
                clear hd hFm hK
                go_simp
                exact HK.out _ _ ⟨a92, c92, rfl, r92, ft_mono f92 (foot_dep 8 rfl rfl rfl)⟩ (Below.refl _ _)
              simp only [List.nil_append, List.cons_append]
              apply step_fix
              · intro a W Zs hS hFm hz hd
                obtain ⟨a92, c92, e92, r92, f92⟩ := hd 8 92 rfl rfl
                have h92 := ev_get hFm.size e92
                refine .inl ⟨wanted_none rfl _, fun K hK => ?_⟩
                have HK := Lib.hid hK
                clear hd hFm hK
                go_simp
                exact HK.out _ _ rfl (Below.refl _ _)
              simp only [List.nil_append, List.cons_append]
              refine step_of (boxF _ 29 6) (boxF_good _ _ _) ?_ ?_
              · intro a W Zs hS hFm hz hd
                refine .inl ⟨wanted_none rfl _, fun K hK => ?_⟩
                have HK := Lib.hid hK
                clear hd hFm hK
                go_simp
                exact HK.out _ _ ⟨_, _, rfl, rfl, Blk.new _ _ _, .inl ⟨Nat.le_refl _, by simp⟩⟩ (alloc_below _ _)
              simp only [List.nil_append, List.cons_append]
              refine step_of (frBoxF _ (A5)) (frBoxF_good _ _) ?_ ?_
              · intro a W Zs hS hFm hz hd hap
                obtain ⟨b27, cs27, e27, n27, q27, z27⟩ := hd 11 27 rfl rfl
                have h27 := ev_get hFm.size e27
                obtain ⟨a101, c101, e101, r101, f101⟩ := hd 9 101 rfl rfl
                have h101 := ev_get hFm.size e101
                have hB0 := (hz 11 _ rfl z27).1
                obtain ⟨u0, u1, u2, u3, u4, u5, rfl⟩ := arr6 n27
                have hq := q27.at
                have hfz := q27.frozen
                refine ⟨wanted_none rfl _, b27, z27, fun K hK => ?_⟩
                have HK := Lib.hid hK
                clear hd hFm hK
                go_simp
                exact HK.out undef _ (Only.fill6 _ _ _ _ _ _ _ _) (fun d hd' => by injection hd' with hd'; subst hd'; exact ⟨⟨b27, a101, c101, e27, q27.fill6 _ _ _ _ _ _, r101.agree f101 (store_apart (Only.fill6 W b27 _ _ _ _ _ _) hB0 z27 hap 9 rfl (by decide)), .inr (.inl rfl), ft_mono f101 (foot_depS 9 rfl rfl rfl)⟩, ⟨b27, _, e27, rfl, q27.fill6 _ _ _ _ _ _, z27⟩⟩)
              simp only [List.nil_append, List.cons_append]
              apply step_fix
              · intro a W Zs hS hFm hz hd
                have h102 := ev_get hFm.size (hd 10 102 rfl rfl)
                refine .inl ⟨wanted_none rfl _, fun K hK => ?_⟩
                have HK := Lib.hid hK
                clear hd hFm hK
                go_simp
                exact HK.out _ _ rfl (Below.refl _ _)
              simp only [List.nil_append, List.cons_append]
              intro a w7 Zs hS hFm hz hd
              obtain ⟨b27, a27, c27, e27, q27, r27, f27, g27⟩ := hd 12 27 (by decide) rfl
              obtain ⟨bz, csz, ez, nz, qz, zz⟩ := hd 11 27 (by decide) rfl
              have nb27 := ptr_new ez e27 (hz 11 (by decide) bz zz)
              clear zz qz nz ez
              clear csz bz
              have e28 := hd 13 28 (by decide) rfl
              have e0 := hFm.old 0 rfl
              conv at e0 => rhs; whnf
              have e1 := hFm.old 1 rfl
              conv at e1 => rhs; whnf
              have e2 := hFm.old 2 rfl
              conv at e2 => rhs; whnf
              have e3 := hFm.old 3 rfl
              conv at e3 => rhs; whnf
              have e4 := hFm.old 4 rfl
              conv at e4 => rhs; whnf
              have e5 := hFm.old 5 rfl
              conv at e5 => rhs; whnf
              have e6 := hFm.old 6 rfl
              conv at e6 => rhs; whnf
              have e7 := hFm.old 7 rfl
              conv at e7 => rhs; whnf
              have e8 := hFm.old 8 rfl
              conv at e8 => rhs; whnf
              have e9 := hFm.old 9 rfl
              conv at e9 => rhs; whnf
              have e10 := hFm.old 10 rfl
              conv at e10 => rhs; whnf
              have e11 := hFm.old 11 rfl
              conv at e11 => rhs; whnf
              have e12 := hFm.old 12 rfl
              conv at e12 => rhs; whnf
              have e13 := hFm.old 13 rfl
              conv at e13 => rhs; whnf
              have e14 := hFm.old 14 rfl
              conv at e14 => rhs; whnf
              have e15 := hFm.old 15 rfl
              conv at e15 => rhs; whnf
              have e16 := hFm.old 16 rfl
              conv at e16 => rhs; whnf
              have e17 := hFm.old 17 rfl
              conv at e17 => rhs; whnf
              have e18 := hFm.old 18 rfl
              conv at e18 => rhs; whnf
              have e19 := hFm.old 19 rfl
              conv at e19 => rhs; whnf
              have e20 := hFm.old 20 rfl
              conv at e20 => rhs; whnf
              have e21 := hFm.old 21 rfl
              conv at e21 => rhs; whnf
              have e22 := hFm.old 22 rfl
              conv at e22 => rhs; whnf
              have e23 := hFm.old 23 rfl
              conv at e23 => rhs; whnf
              have e24 := hFm.old 24 rfl
              conv at e24 => rhs; whnf
              have e25 := hFm.old 25 rfl
              conv at e25 => rhs; whnf
              have e26 := hFm.old 26 rfl
              conv at e26 => rhs; whnf
              have e29 := hFm.old 29 rfl
              conv at e29 => rhs; whnf
              have e30 := hFm.old 30 rfl
              conv at e30 => rhs; whnf
              have e31 := hFm.old 31 rfl
              conv at e31 => rhs; whnf
              have e32 := hFm.old 32 rfl
              conv at e32 => rhs; whnf
              have e33 := hFm.old 33 rfl
              conv at e33 => rhs; whnf
              have e34 := hFm.old 34 rfl
              conv at e34 => rhs; whnf
              have e35 := hFm.old 35 rfl
              conv at e35 => rhs; whnf
              have e36 := hFm.old 36 rfl
              conv at e36 => rhs; whnf
              have e37 := hFm.old 37 rfl
              conv at e37 => rhs; whnf
              have e38 := hFm.old 38 rfl
              conv at e38 => rhs; whnf
              have e39 := hFm.old 39 rfl
              conv at e39 => rhs; whnf
              have e40 := hFm.old 40 rfl
              conv at e40 => rhs; whnf
              have e41 := hFm.old 41 rfl
              conv at e41 => rhs; whnf
              have e42 := hFm.old 42 rfl
              conv at e42 => rhs; whnf
              have e43 := hFm.old 43 rfl
              conv at e43 => rhs; whnf
              have e44 := hFm.old 44 rfl
              conv at e44 => rhs; whnf
              have e45 := hFm.old 45 rfl
              conv at e45 => rhs; whnf
              have e46 := hFm.old 46 rfl
              conv at e46 => rhs; whnf
              have e47 := hFm.old 47 rfl
              conv at e47 => rhs; whnf
              have e48 := hFm.old 48 rfl
              conv at e48 => rhs; whnf
              have e49 := hFm.old 49 rfl
              conv at e49 => rhs; whnf
              have e50 := hFm.old 50 rfl
              conv at e50 => rhs; whnf
              have e51 := hFm.old 51 rfl
              conv at e51 => rhs; whnf
              have e52 := hFm.old 52 rfl
              conv at e52 => rhs; whnf
              have e53 := hFm.old 53 rfl
              conv at e53 => rhs; whnf
              have e54 := hFm.old 54 rfl
              conv at e54 => rhs; whnf
              have e55 := hFm.old 55 rfl
              conv at e55 => rhs; whnf
              have e56 := hFm.old 56 rfl
              conv at e56 => rhs; whnf
              have e57 := hFm.old 57 rfl
              conv at e57 => rhs; whnf
              have e58 := hFm.old 58 rfl
              conv at e58 => rhs; whnf
              have e59 := hFm.old 59 rfl
              conv at e59 => rhs; whnf
              have e60 := hFm.old 60 rfl
              conv at e60 => rhs; whnf
              have e61 := hFm.old 61 rfl
              conv at e61 => rhs; whnf
              have e62 := hFm.old 62 rfl
              conv at e62 => rhs; whnf
              have e63 := hFm.old 63 rfl
              conv at e63 => rhs; whnf
              have e64 := hFm.old 64 rfl
              conv at e64 => rhs; whnf
              have e65 := hFm.old 65 rfl
              conv at e65 => rhs; whnf
              have e66 := hFm.old 66 rfl
              conv at e66 => rhs; whnf
              have e67 := hFm.old 67 rfl
              conv at e67 => rhs; whnf
              have e68 := hFm.old 68 rfl
              conv at e68 => rhs; whnf
              have e69 := hFm.old 69 rfl
              conv at e69 => rhs; whnf
              have e70 := hFm.old 70 rfl
              conv at e70 => rhs; whnf
              have e71 := hFm.old 71 rfl
              conv at e71 => rhs; whnf
              have e72 := hFm.old 72 rfl
              conv at e72 => rhs; whnf
              have e73 := hFm.old 73 rfl
              conv at e73 => rhs; whnf
              have e74 := hFm.old 74 rfl
              conv at e74 => rhs; whnf
              have e75 := hFm.old 75 rfl
              conv at e75 => rhs; whnf
              have e76 := hFm.old 76 rfl
              conv at e76 => rhs; whnf
              have e77 := hFm.old 77 rfl
              conv at e77 => rhs; whnf
              have e78 := hFm.old 78 rfl
              conv at e78 => rhs; whnf
              have e79 := hFm.old 79 rfl
              conv at e79 => rhs; whnf
              have e80 := hFm.old 80 rfl
              conv at e80 => rhs; whnf
              have e81 := hFm.old 81 rfl
              conv at e81 => rhs; whnf
              have e82 := hFm.old 82 rfl
              conv at e82 => rhs; whnf
              have e83 := hFm.old 83 rfl
              conv at e83 => rhs; whnf
              have e84 := hFm.old 84 rfl
              conv at e84 => rhs; whnf
              have e85 := hFm.old 85 rfl
              conv at e85 => rhs; whnf
              have e86 := hFm.old 86 rfl
              conv at e86 => rhs; whnf
              have e87 := hFm.old 87 rfl
              conv at e87 => rhs; whnf
              have e88 := hFm.old 88 rfl
              conv at e88 => rhs; whnf
              have e89 := hFm.old 89 rfl
              conv at e89 => rhs; whnf
              have e90 := hFm.old 90 rfl
              conv at e90 => rhs; whnf
              have e91 := hFm.old 91 rfl
              conv at e91 => rhs; whnf
              have e103 := hFm.old 103 rfl
              conv at e103 => rhs; whnf
              have e104 := hFm.old 104 rfl
              conv at e104 => rhs; whnf
              have e105 := hFm.old 105 rfl
              conv at e105 => rhs; whnf
              have e106 := hFm.old 106 rfl
              conv at e106 => rhs; whnf
              have e107 := hFm.old 107 rfl
              conv at e107 => rhs; whnf
              have e108 := hFm.old 108 rfl
              conv at e108 => rhs; whnf
              have e109 := hFm.old 109 rfl
              conv at e109 => rhs; whnf
              have e110 := hFm.old 110 rfl
              conv at e110 => rhs; whnf
              have e111 := hFm.old 111 rfl
              conv at e111 => rhs; whnf
              have hsz := hFm.size
              have hdf := hFm.defers
              clear hd hFm
              obtain ⟨t, df⟩ := a
              simp only at hsz hdf
              subst hdf
              obtain ⟨x, hx⟩ : ∃ x : Nat → Value, ∀ i, t.getD i undef = x i := ⟨fun i => t.getD i undef, fun _ => rfl⟩
              have h27 := (hx 27).symm.trans e27
              have h28 := (hx 28).symm.trans e28
              have h0 := (hx 0).symm.trans e0
              have h1 := (hx 1).symm.trans e1
              have h2 := (hx 2).symm.trans e2
              have h3 := (hx 3).symm.trans e3
              have h4 := (hx 4).symm.trans e4
              have h5 := (hx 5).symm.trans e5
              have h6 := (hx 6).symm.trans e6
              have h7 := (hx 7).symm.trans e7
              have h8 := (hx 8).symm.trans e8
              have h9 := (hx 9).symm.trans e9
              have h10 := (hx 10).symm.trans e10
              have h11 := (hx 11).symm.trans e11
              have h12 := (hx 12).symm.trans e12
              have h13 := (hx 13).symm.trans e13
              have h14 := (hx 14).symm.trans e14
              have h15 := (hx 15).symm.trans e15
              have h16 := (hx 16).symm.trans e16
              have h17 := (hx 17).symm.trans e17
              have h18 := (hx 18).symm.trans e18
              have h19 := (hx 19).symm.trans e19
              have h20 := (hx 20).symm.trans e20
              have h21 := (hx 21).symm.trans e21
              have h22 := (hx 22).symm.trans e22
              have h23 := (hx 23).symm.trans e23
              have h24 := (hx 24).symm.trans e24
              have h25 := (hx 25).symm.trans e25
              have h26 := (hx 26).symm.trans e26
              have h29 := (hx 29).symm.trans e29
              have h30 := (hx 30).symm.trans e30
              have h31 := (hx 31).symm.trans e31
              have h32 := (hx 32).symm.trans e32
              have h33 := (hx 33).symm.trans e33
              have h34 := (hx 34).symm.trans e34
              have h35 := (hx 35).symm.trans e35
              have h36 := (hx 36).symm.trans e36
              have h37 := (hx 37).symm.trans e37
              have h38 := (hx 38).symm.trans e38
              have h39 := (hx 39).symm.trans e39
              have h40 := (hx 40).symm.trans e40
              have h41 := (hx 41).symm.trans e41
              have h42 := (hx 42).symm.trans e42
              have h43 := (hx 43).symm.trans e43
              have h44 := (hx 44).symm.trans e44
              have h45 := (hx 45).symm.trans e45
              have h46 := (hx 46).symm.trans e46
              have h47 := (hx 47).symm.trans e47
              have h48 := (hx 48).symm.trans e48
              have h49 := (hx 49).symm.trans e49
              have h50 := (hx 50).symm.trans e50
              have h51 := (hx 51).symm.trans e51
              have h52 := (hx 52).symm.trans e52
              have h53 := (hx 53).symm.trans e53
              have h54 := (hx 54).symm.trans e54
              have h55 := (hx 55).symm.trans e55
              have h56 := (hx 56).symm.trans e56
              have h57 := (hx 57).symm.trans e57
              have h58 := (hx 58).symm.trans e58
              have h59 := (hx 59).symm.trans e59
              have h60 := (hx 60).symm.trans e60
              have h61 := (hx 61).symm.trans e61
              have h62 := (hx 62).symm.trans e62
              have h63 := (hx 63).symm.trans e63
              have h64 := (hx 64).symm.trans e64
              have h65 := (hx 65).symm.trans e65
              have h66 := (hx 66).symm.trans e66
              have h67 := (hx 67).symm.trans e67
              have h68 := (hx 68).symm.trans e68
              have h69 := (hx 69).symm.trans e69
              have h70 := (hx 70).symm.trans e70
              have h71 := (hx 71).symm.trans e71
              have h72 := (hx 72).symm.trans e72
              have h73 := (hx 73).symm.trans e73
              have h74 := (hx 74).symm.trans e74
              have h75 := (hx 75).symm.trans e75
              have h76 := (hx 76).symm.trans e76
              have h77 := (hx 77).symm.trans e77
              have h78 := (hx 78).symm.trans e78
              have h79 := (hx 79).symm.trans e79
              have h80 := (hx 80).symm.trans e80
              have h81 := (hx 81).symm.trans e81
              have h82 := (hx 82).symm.trans e82
              have h83 := (hx 83).symm.trans e83
              have h84 := (hx 84).symm.trans e84
              have h85 := (hx 85).symm.trans e85
              have h86 := (hx 86).symm.trans e86
              have h87 := (hx 87).symm.trans e87
              have h88 := (hx 88).symm.trans e88
              have h89 := (hx 89).symm.trans e89
              have h90 := (hx 90).symm.trans e90
              have h91 := (hx 91).symm.trans e91
              have h103 := (hx 103).symm.trans e103
              have h104 := (hx 104).symm.trans e104
              have h105 := (hx 105).symm.trans e105
              have h106 := (hx 106).symm.trans e106
              have h107 := (hx 107).symm.trans e107
              have h108 := (hx 108).symm.trans e108
              have h109 := (hx 109).symm.trans e109
              have h110 := (hx 110).symm.trans e110
              have h111 := (hx 111).symm.trans e111
              have ht' : t = #[x 0, x 1, x 2, x 3, x 4, x 5, x 6, x 7, x 8, x 9, x 10, x 11, x 12, x 13, x 14, x 15, x 16, x 17, x 18, x 19, x 20, x 21, x 22, x 23, x 24, x 25, x 26, x 27, x 28, x 29, x 30, x 31, x 32, x 33, x 34, x 35, x 36, x 37, x 38, x 39, x 40, x 41, x 42, x 43, x 44, x 45, x 46, x 47, x 48, x 49, x 50, x 51, x 52, x 53, x 54, x 55, x 56, x 57, x 58, x 59, x 60, x 61, x 62, x 63, x 64, x 65, x 66, x 67, x 68, x 69, x 70, x 71, x 72, x 73, x 74, x 75, x 76, x 77, x 78, x 79, x 80, x 81, x 82, x 83, x 84, x 85, x 86, x 87, x 88, x 89, x 90, x 91, x 92, x 93, x 94, x 95, x 96, x 97, x 98, x 99, x 100, x 101, x 102, x 103, x 104, x 105, x 106, x 107, x 108, x 109, x 110, x 111] := frame_lit t 112 hsz x hx
              clear hx hsz hz e27 e28 e0 e1 e2 e3 e4 e5 e6 e7 e8 e9 e10 e11 e12 e13 e14 e15 e16 e17 e18 e19 e20 e21 e22 e23 e24 e25 e26 e29 e30 e31 e32 e33 e34 e35 e36 e37 e38 e39 e40 e41 e42 e43 e44 e45 e46 e47 e48 e49 e50 e51 e52 e53 e54 e55 e56 e57 e58 e59 e60 e61 e62 e63 e64 e65 e66 e67 e68 e69 e70 e71 e72 e73 e74 e75 e76 e77 e78 e79 e80 e81 e82 e83 e84 e85 e86 e87 e88 e89 e90 e91 e103 e104 e105 e106 e107 e108 e109 e110 e111
              subst ht'
              (try dsimp only)
              rw [h27, h28, h0, h1, h2, h3, h4, h5, h6, h7, h8, h9, h10, h11, h12, h13, h14, h15, h16, h17, h18, h19, h20, h21, h22, h23, h24, h25, h26, h29, h30, h31, h32, h33, h34, h35, h36, h37, h38, h39, h40, h41, h42, h43, h44, h45, h46, h47, h48, h49, h50, h51, h52, h53, h54, h55, h56, h57, h58, h59, h60, h61, h62, h63, h64, h65, h66, h67, h68, h69, h70, h71, h72, h73, h74, h75, h76, h77, h78, h79, h80, h81, h82, h83, h84, h85, h86, h87, h88, h89, h90, h91, h103, h104, h105, h106, h107, h108, h109, h110, h111]
              clear h27 h28 h0 h1 h2 h3 h4 h5 h6 h7 h8 h9 h10 h11 h12 h13 h14 h15 h16 h17 h18 h19 h20 h21 h22 h23 h24 h25 h26 h29 h30 h31 h32 h33 h34 h35 h36 h37 h38 h39 h40 h41 h42 h43 h44 h45 h46 h47 h48 h49 h50 h51 h52 h53 h54 h55 h56 h57 h58 h59 h60 h61 h62 h63 h64 h65 h66 h67 h68 h69 h70 h71 h72 h73 h74 h75 h76 h77 h78 h79 h80 h81 h82 h83 h84 h85 h86 h87 h88 h89 h90 h91 h103 h104 h105 h106 h107 h108 h109 h110 h111
              rw [undef_fold]
              have hb := from_drew hS
              replace hM := hM.later hb
              replace hE := hE.later hb
              replace hrE := hrE.later hb
              clear hS hb hD hrd hL HR2
              have qE := hE.at
              unfold frBox at qE
              have qG := q27.at
              unfold frBox at qG
              have hbb : (q5 != q5) = false := by simp
              go_wp2_with fail
              refine (rSame5_any A5 A5 a25 a27 c25 c27 _ hrE r27).mono ?_
              rintro e w9 ⟨rfl, hb⟩
              replace hM := hM.later hb
              have HREL := Lib.hid (show RiJ d da dc db gb lb fx ga gc (#[.string ⟨t.toArray⟩, .string ⟨tt.toArray⟩, .string ⟨tm.toArray⟩, .string ⟨raw.toArray⟩]) w (.int .i64 2) w9 from ⟨.inr (.inr rfl), hM⟩)
              clear hM hb qE qG hE hrE q27 r27
              go_wp2
              go_roundw
              case rel => exact HREL.out
              case measure => simp [intOf]
            · have HREL := Lib.hid (show RiI d da dc db gb lb fx ga gc (#[.string ⟨t.toArray⟩, .string ⟨tt.toArray⟩, .string ⟨tm.toArray⟩, .string ⟨raw.toArray⟩]) w (.int .i64 ((k : Int) + 1)) wr from ⟨k + 1, by omega, by go_num, hM⟩)
              clear hM
              go_wp2
              go_roundw
              case rel => exact HREL.out
              case measure => simp [intOf]; omega
        · have dk : decide ((k : Int) < 4) = false := decide_eq_false (by omega)
          go_wp2
          go_ret
          exact ⟨rfl, hM.hB⟩
  · have dR : decide (200 < (raw.length : Int)) = true := decide_eq_true (by omega)
    have hB : Below w.heap.size w ((w.alloc (.cells #[.int .i64 c.N, .int .i64 c.Pi, .int .i64 c.E, .int .i64 c.G, .int .i64 c.F, .slice a c.P.length cap] 24)).alloc (.cells #[.int .i64 f.K, .int .i64 f.R, .int .i64 f.S, .int .i64 f.P.K, .int .i64 f.P.V, .slice fa f.E.length fc] 29)) := (alloc_below w _).alloc (by simp) _
    go_enter Tryd.func3, Tryd.ntmps3
    go_upto_region 1 with fail
    generalize ((w.alloc (.cells #[.int .i64 c.N, .int .i64 c.Pi, .int .i64 c.E, .int .i64 c.G, .int .i64 c.F, .slice a c.P.length cap] 24)).alloc (.cells #[.int .i64 f.K, .int .i64 f.R, .int .i64 f.S, .int .i64 f.P.K, .int .i64 f.P.V, .slice fa f.E.length fc] 29)) = w1 at *
    go_wp2_with fail
    refine (known10_any _ (hbd.later hB)).mono ?_
    rintro e wn ⟨rfl, hb⟩
    go_wp2
    go_ret
    exact ⟨rfl, hB.trans (hb.mono hB.size)⟩

end Go.Proofs.YthhmedlefahccabDoor
namespace Go.Proofs.YthhmedlefahccabDoor
open Go.ChangeShapes Go.WideShapes Go.ChangeAt Go.RowKit Plait
set_option maxRecDepth 100000
open Go.ChangeMaps (open_string shut_string)
set_option linter.unusedVariables false

set_option maxRecDepth 100000 in
theorem arbRight_lifted (os : Os) (started : os.Started) (H : Type) (enc : TypeId × Value → H) :
    ReturnsInHanded {} Tryd.checked os 3 .any (fun w args => (Rows.arbRightSpec.pre enc Tryd.prog Tryd.f3 [] false w args ∧ laidMetH Tryd.prog laidV w) ∧ sizedMet enc Tryd.prog Tryd.f3 (OpenSpec.ofChange Rows.arbRightSpec) false w args)
      (Rows.arbRightSpec.post enc Tryd.prog Tryd.f3 false true false false) := by
  refine returnsInHanded_of_change_and (C := Tryd.checked) (X := fun w _ => laidMetH Tryd.prog laidV w) (fun _ _ _ hh h => h.of_heap hh) own started (by kernel_rfl) Tryd.func3
    (ChangeSpec.witness_shaped (enc := enc) (C := Tryd.checked) (os := os) (X := fun w _ => laidMetH Tryd.prog laidV w) false (World.doorLaid Tryd.prog 400 os) #[.agg #[.int .i64 0, .int .i64 0, .int .i64 0, .int .i64 0, .int .i64 0, .slice none 0 0], .agg #[.int .i64 0, .int .i64 0, .int .i64 0, .int .i64 0, .int .i64 0, .slice none 0 0], .slice none 0 0, .int .i64 0, .int .i64 0, .int .i64 0, .slice none 0 0, .string ⟨#[]⟩] 8 rfl (World.shaped_of_RefB (by kernel_rfl) (by kernel_rfl)) (by kernel_rfl) (by kernel_rfl) (by kernel_rfl) (door_met os _)) ?_
  intro W base args ds gs before hval0 hW _ _ hL _
  have hval : ∀ (j : Nat) t v, Tryd.f3.params[j]? = some t → args[j]? = some v → Value.okWide Tryd.prog W .any base t v := hval0
  have hW' := hW
  obtain ⟨p, q, hA0, hV, rfl, hfz, hnd⟩ := hW
  have hA : DataW.TrodAll enc Tryd.prog W 0 (fun _ => true) true Tryd.f3.params.toList args.toList ds p := hA0
  rw [Tryd.params3] at hA hval
  obtain ⟨v0, vs0, d0, ds0, p0, q0, hargs, rfl, rfl, h0, r0⟩ := trodAll_cons hA
  obtain ⟨v1, vs1, d1, ds1, p1, q1, rfl, rfl, rfl, h1, r1⟩ := trodAll_cons r0
  obtain ⟨v2, vs2, d2, ds2, p2, q2, rfl, rfl, rfl, h2, r2⟩ := trodAll_cons r1
  obtain ⟨v3, vs3, d3, ds3, p3, q3, rfl, rfl, rfl, h3, r3⟩ := trodAll_cons r2
  obtain ⟨v4, vs4, d4, ds4, p4, q4, rfl, rfl, rfl, h4, r4⟩ := trodAll_cons r3
  obtain ⟨v5, vs5, d5, ds5, p5, q5, rfl, rfl, rfl, h5, r5⟩ := trodAll_cons r4
  obtain ⟨v6, vs6, d6, ds6, p6, q6, rfl, rfl, rfl, h6, r6⟩ := trodAll_cons r5
  obtain ⟨v7, vs7, d7, ds7, p7, q7, rfl, rfl, rfl, h7, r7⟩ := trodAll_cons r6
  obtain ⟨rfl, rfl, rfl⟩ := trodAll_nil r7
  obtain rfl : args = #[v0, v1, v2, v3, v4, v5, v6, v7] := by cases args; simp_all
  obtain ⟨rfl, rfl⟩ := trodVars_none hV
  have k0 := h0
  have lt0 : ∀ x ∈ p0, x.block < W.heap.size := by obtain ⟨m, hm⟩ := k0; exact DataW.trod_lt m _ _ _ hm
  obtain ⟨c0, a0, cap0, rfl, w0, i0a, i0b, i0c, i0d, i0e⟩ := open_conf (hval 0 24 v0 rfl rfl) h0
  have k1 := h1
  have lt1 : ∀ x ∈ p1, x.block < W.heap.size := by obtain ⟨m, hm⟩ := k1; exact DataW.trod_lt m _ _ _ hm
  obtain ⟨c1, a1, cap1, rfl, w1, i1a, i1b, i1c, i1d, i1e⟩ := open_frame (hval 1 29 v1 rfl rfl) h1
  have k2 := h2
  have lt2 : ∀ x ∈ p2, x.block < W.heap.size := by obtain ⟨m, hm⟩ := k2; exact DataW.trod_lt m _ _ _ hm
  obtain ⟨a2, len2, cap2, rfl⟩ := okWide_slice Tryd.underlying22 (hval 2 22 v2 rfl rfl)
  obtain ⟨z2, e2, w2⟩ : ∃ zs : List Int, len2 = zs.length ∧ Row W a2 zs := by
    obtain ⟨fuel, hf⟩ := h2
    rcases open_ints Tryd.underlying22 Tryd.underlying3 (by kernel_rfl) hf with ⟨hcs, _⟩ | ⟨x, l, c, zs, hcs, _, hl, hm, hz, _, hcell, hwz⟩
    · simp [Value.cells] at hcs
      obtain ⟨rfl, rfl, rfl⟩ := hcs
      exact row_nil W
    · simp [Value.cells] at hcs
      obtain ⟨rfl, rfl, rfl⟩ := hcs
      exact row_of hl hm (by rw [hz]; split <;> omega) hcell hwz
  subst e2
  obtain ⟨a3, rfl, rfl, rfl, w3⟩ := open_int Tryd.underlying3 (hval 3 3 v3 rfl rfl) h3
  obtain ⟨a4, rfl, rfl, rfl, w4⟩ := open_int Tryd.underlying3 (hval 4 3 v4 rfl rfl) h4
  obtain ⟨a5, rfl, rfl, rfl, w5⟩ := open_int Tryd.underlying3 (hval 5 3 v5 rfl rfl) h5
  have k6 := h6
  have lt6 : ∀ x ∈ p6, x.block < W.heap.size := by obtain ⟨m, hm⟩ := k6; exact DataW.trod_lt m _ _ _ hm
  obtain ⟨a6, len6, cap6, rfl⟩ := okWide_slice Tryd.underlying22 (hval 6 22 v6 rfl rfl)
  obtain ⟨z6, e6, w6⟩ : ∃ zs : List Int, len6 = zs.length ∧ Row W a6 zs := by
    obtain ⟨fuel, hf⟩ := h6
    rcases open_ints Tryd.underlying22 Tryd.underlying3 (by kernel_rfl) hf with ⟨hcs, _⟩ | ⟨x, l, c, zs, hcs, _, hl, hm, hz, _, hcell, hwz⟩
    · simp [Value.cells] at hcs
      obtain ⟨rfl, rfl, rfl⟩ := hcs
      exact row_nil W
    · simp [Value.cells] at hcs
      obtain ⟨rfl, rfl, rfl⟩ := hcs
      exact row_of hl hm (by rw [hz]; split <;> omega) hcell hwz
  subst e6
  obtain ⟨s7, rfl, rfl, rfl, w7⟩ := open_string Tryd.underlying9 (hval 7 9 v7 rfl rfl) h7
  obtain ⟨l7, rfl⟩ := bytes_list s7
  clear hA0 hval0
  refine (arbRight_walk c0 a0 cap0 c1 a1 cap1 a2 z2 cap2 a3 a4 a5 a6 z6 cap6 l7 W (of_laid hL) w0 i0a i0b i0c i0d i0e w1 i1a i1b i1c i1d i1e w2 (wf_lo w3) (wf_hi w3) (wf_lo w4) (wf_hi w4) (wf_lo w5) (wf_hi w5) w6 (str_le w7)).mono fun e W' ⟨he, bel⟩ => ?_
  subst he
  exact ⟨_, rfl, _, _, _, [], _, [], hW', trodAll_mk1 (shut_bool Tryd.underlying4 _), (trodAll_cons_mk (Below.trod laidOut (by kernel_rfl) (of_decide_eq_true (by kernel_rfl)) k0 bel lt0) (trodAll_cons_mk (Below.trod laidOut (by kernel_rfl) (of_decide_eq_true (by kernel_rfl)) k1 bel lt1) (trodAll_cons_mk (Below.trod laidOut (by kernel_rfl) (of_decide_eq_true (by kernel_rfl)) k2 bel lt2) (trodAll_cons_mk (shut_int Tryd.underlying3 w3) (trodAll_cons_mk (shut_int Tryd.underlying3 w4) (trodAll_cons_mk (shut_int Tryd.underlying3 w5) (trodAll_cons_mk (Below.trod laidOut (by kernel_rfl) (of_decide_eq_true (by kernel_rfl)) k6 bel lt6) (trodAll_cons_mk (shut_string Tryd.underlying9 w7) trodAll_mk0)))))))), rfl, bel.frame _, fun h => by cases h⟩

theorem arbRight_over : Rows.arbRightRow.holds Tryd.pinned (OpenSpec.ofChange Rows.arbRightSpec) :=
  OpenClaim.holds_of_wide 3 Tryd.f3 rfl rfl rfl rfl rfl rfl rfl ⟨rfl, rfl, rfl, rfl, rfl⟩ rfl rfl rfl rfl rfl (by kernel_rfl) Tryd.func3 (by kernel_rfl)
    (of_decide_eq_true (by kernel_rfl)) (by unfold Func.isWrapper; first | (rw [if_pos (by decide +kernel)]; kernel_rfl) | (rw [if_neg (by decide +kernel)]; exact ⟨rfl, rfl⟩))
    (fun os started H enc _ => arbRight_lifted os started H enc)

theorem arbRight_holds : Rows.ArbRightCardSaid :=
  Claim7.holds_tied_plain_at .later [] [.wider] true (true, "006ea62dc85fac090e9905e82acde7d14dedde7539dceda8060da74993108850") true
    arbRight_over (fun _ h => by cases h) (by kernel_rfl) (fun _ h => by cases h) arbRight_row_tie rfl ⟨rfl, rfl⟩ (by kernel_rfl) rfl
    (fun f fn hf hfn => by
      obtain rfl : f = 3 := Option.some.inj ((show Tryd.prog.funcNamed Tryd.f3.name = some 3 by kernel_rfl).symm.trans hf) |>.symm
      obtain rfl : fn = Tryd.f3 := (Option.some.inj (Tryd.func3.symm.trans hfn)).symm
      exact ⟨by kernel_rfl, fun j t ht => by
        rw [Tryd.params3] at ht
        have hm : t ∈ [24, 29, 22, 3, 3, 3, 22, 9] := by
          have := Array.mem_of_getElem? ht
          simpa using this
        have hall : ([24, 29, 22, 3, 3, 3, 22, 9].all fun u => !Tryd.prog.wantsStandIn u) = true := by kernel_rfl
        exact (show Tryd.prog.wantsStandIn t = false by simpa using List.all_eq_true.1 hall t hm)⟩)
    (by kernel_rfl)
#print axioms arbRight_holds
end Go.Proofs.YthhmedlefahccabDoor
