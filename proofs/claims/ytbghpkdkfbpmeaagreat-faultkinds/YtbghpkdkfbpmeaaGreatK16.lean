/-
  Contracts of plaitingref6, third part: frames that a locus makes, by the document's own chapter 6.
-/
import Derived.Test.YtbghpkdkfbpmeaaGreatK13
import Derived.Test.YtbghpkdkfbpmeaaGreatK11
namespace Go.Proofs.YtbghpkdkfbpmeaaGreat
open Go.RowKit Plait
set_option maxRecDepth 100000
set_option linter.unusedVariables false
set_option linter.unusedSimpArgs false

def forgeF (f : Fr) (n : Int) (echo : Bool) : Fr := if echo then echF f n else payF f n

/-- What holds once the frame stands. -/
structure ForgAt (c : Cf) (ca : Option Addr) (cc : Nat) (F : Fr) (g : Nat) (w W : World) : Prop where
  bel : Below w.heap.size w W
  conf : Blk W w.heap.size 24 (confBox c ca cc)
  lt : w.heap.size < g
  row : ∃ (av : Option Addr) (cv : Nat), Blk W g 32 (frBox F av cv) ∧ OwnT (w.heap.size + 1) W (.slice av F.E.length cv) F.E ∧ ∀ x, av = some x → x.block ≠ g

/-- What holds in the loop that makes a fresh one. -/
structure ForgLoop (c : Cf) (ca : Option Addr) (cc : Nat) (R s : Int) (n g k : Nat) (v : Value) (w W : World) : Prop where
  kn : k ≤ n
  bel : Below w.heap.size w W
  conf : Blk W w.heap.size 24 (confBox c ca cc)
  box : Blk W g 32 (MakeV 3 R s 1 0 v)
  own : OwnT (g + 1) W v (List.replicate k ⟨1, 0⟩)

theorem replicate_in (k : Nat) : ∀ t ∈ List.replicate k (⟨1, 0⟩ : It), inI t.K ∧ inI t.V := fun t ht => by
  rw [List.eq_of_mem_replicate ht]
  exact ⟨⟨by show (-9223372036854775808 : Int) ≤ 1; omega, by show (1 : Int) ≤ 9223372036854775807; omega⟩, ⟨by show (-9223372036854775808 : Int) ≤ 0; omega, by show (0 : Int) ≤ 9223372036854775807; omega⟩⟩

/-- The echoes, overwritten one by one. -/
def mixE (v : It) (E : List It) (k : Nat) : List It := List.replicate k v ++ E.drop k
theorem mixE_len (v : It) (E : List It) (k : Nat) (h : k ≤ E.length) : (mixE v E k).length = E.length := by unfold mixE; simp; omega
theorem mixE_set (v : It) (E : List It) (k : Nat) (h : k < E.length) : (mixE v E k).set k v = mixE v E (k + 1) := by
  unfold mixE
  rw [List.set_append_right _ _ (by simp), List.length_replicate, Nat.sub_self, List.drop_eq_getElem_cons h, List.set_cons_zero, List.replicate_succ', List.append_assoc]
  rfl
theorem mixE_all (v : It) (E : List It) : mixE v E E.length = List.replicate E.length v := by unfold mixE; simp


set_option maxHeartbeats 6400000 in
theorem rforged_any (c : Cf) (ca : Option Addr) (cc : Nat) (r s : Int) (b : List UInt8) (n : Int) (echo : Bool) (w : World) (hc : c.Ok) (r0 : 0 ≤ r) (r1 : r ≤ 1099511627776) (s0 : 0 ≤ s) (s1 : s < slotsI c) (hb : b.length ≤ 1048576) :
    Calls Tryz.prog 39 #[.agg #[.int .i64 c.N, .int .i64 c.Pi, .int .i64 c.E, .int .i64 c.G, .int .i64 c.F, .slice ca c.P.length cc], .int .i64 r, .int .i64 s, .string ⟨b.toArray⟩, .int .i64 n, .bool echo] w fun e w' => e = .returned (.string ⟨(textF (forgeF (dataF c r s b) n echo)).toArray⟩) ∧ Below w.heap.size w w' := by
  have hB0 : Below w.heap.size w (w.alloc (.cells #[.int .i64 c.N, .int .i64 c.Pi, .int .i64 c.E, .int .i64 c.G, .int .i64 c.F, .slice ca c.P.length cc] 24)) := alloc_below w _
  have hC0 : Blk (w.alloc (.cells #[.int .i64 c.N, .int .i64 c.Pi, .int .i64 c.E, .int .i64 c.G, .int .i64 c.F, .slice ca c.P.length cc] 24)) w.heap.size 24 (confBox c ca cc) := Blk.new w _ _
  obtain ⟨f, e, hfe⟩ : ∃ f e, readF c b = (f, e) := ⟨_, _, rfl⟩
  have HR := Lib.hid (fun W => rRead_any2 c ca cc b W hc hb)
  have HD := Lib.hid (show dataF c r s b = if e = 0 ∧ f.K = 3 then f else freshF c r s by unfold dataF; rw [hfe])
  have HFr := Lib.hid (show freshF c r s = ⟨3, wireI c r, s, ⟨1, 0⟩, if s < c.N then List.replicate (slotsI c).toNat ⟨1, 0⟩ else []⟩ from rfl)
  have hok := dataF_ok c r s b hc s0 s1
  have HW := Lib.hid (fun W => rwire_any c ca cc r W hc r0 r1)
  have HS := Lib.hid (fun W => rslots_any c ca cc W hc)
  have hsl : 6 ≤ slotsI c ∧ slotsI c ≤ 15 := by have := hc.len; have := hc.n6; have := hc.n12; unfold slotsI; omega
  have h6 := hc.n6
  have h12 := hc.n12
  rw [hfe] at HR
  clear hfe
  generalize wireI c r = R at *
  obtain ⟨sN, hsN⟩ : ∃ sN : Nat, slotsI c = (sN : Int) := ⟨(slotsI c).toNat, by omega⟩
  rw [hsN] at HS HFr hsl s1
  rw [Int.toNat_natCast] at HFr
  clear hsN
  generalize dataF c r s b = F at *
  generalize freshF c r s = Fz at *
  have HM := Lib.hid (fun W => rrest_any n 256 W (by omega) (by omega))
  have HE0 := Lib.hid (show forgeF F n false = ⟨F.K, F.R, F.S, ⟨2, n % 256⟩, F.E⟩ from rfl)
  have HE1 := Lib.hid (show forgeF F n true = ⟨F.K, F.R, F.S, F.P, List.replicate F.E.length ⟨2, n % 256⟩⟩ from rfl)
  have v0 : 0 ≤ n % 256 := by omega
  have v1 : n % 256 < 256 := by omega
  have hokp := payF_ok hok.1 hok.2 n
  have hoke := echF_ok hok.1 n
  have hll := (ok_small hc hok.1).2.2.2.2.2
  have hin : ∀ t ∈ F.E, inI t.K ∧ inI t.V := fun t ht => by have := itemB_in (hok.1.all t ht); unfold inI; omega
  have HT0 := Lib.hid (fun W (a : Option Addr) (cap : Nat) (h : RowT W a F.E) => rText_ok c ca cc (payF F n) a cap W hc hokp h)
  have HT1 := Lib.hid (fun W (a : Option Addr) (cap : Nat) (h : RowT W a (List.replicate F.E.length ⟨2, n % 256⟩)) => rText_ok c ca cc (echF F n) a cap W hc hoke h)
  unfold payF at HT0
  unfold echF at HT1
  simp only [List.length_replicate] at HT1
  clear hok hokp hoke
  generalize n % 256 = v at *
  go_enter Tryz.func39, Tryz.ntmps39
  go_wp2_with fail
  refine (HR.out _).mono ?_
  rintro en wm ⟨fa, fc, rfl, hrf, hff, hof, hb1⟩
  have hsz0 : (w.alloc (.cells #[.int .i64 c.N, .int .i64 c.Pi, .int .i64 c.E, .int .i64 c.G, .int .i64 c.F, .slice ca c.P.length cc] 24)).heap.size = w.heap.size + 1 := by simp
  rw [hsz0] at hof hff
  have hszm : w.heap.size + 1 ≤ wm.heap.size := by have := hb1.size; omega
  have hB := hB0.trans (hb1.mono hB0.size)
  have hC := hC0.later hb1
  clear hb1 hB0 hC0 HR hsz0
  have hol := hof.lt
  have hneF : ∀ x, fa = some x → x.block < wm.heap.size := fun x hx => (hol x.block (by rw [hx]; rfl)).2
  replace hC := hC.alloc (.cells #[.int .i64 f.K, .int .i64 f.R, .int .i64 f.S, .int .i64 f.P.K, .int .i64 f.P.V, .slice fa f.E.length fc] 32)
  replace hof := hof.later (alloc_below wm (.cells #[.int .i64 f.K, .int .i64 f.R, .int .i64 f.S, .int .i64 f.P.K, .int .i64 f.P.V, .slice fa f.E.length fc] 32))
  have hG : Blk (wm.alloc (.cells #[.int .i64 f.K, .int .i64 f.R, .int .i64 f.S, .int .i64 f.P.K, .int .i64 f.P.V, .slice fa f.E.length fc] 32)) wm.heap.size 32 (frBox f fa fc) := Blk.new wm _ _
  replace hB := hB.alloc hB.size (.cells #[.int .i64 f.K, .int .i64 f.R, .int .i64 f.S, .int .i64 f.P.K, .int .i64 f.P.V, .slice fa f.E.length fc] 32)
  go_upto_region 2 with fail
  generalize wm.alloc (.cells #[.int .i64 f.K, .int .i64 f.R, .int .i64 f.S, .int .i64 f.P.K, .int .i64 f.P.V, .slice fa f.E.length fc] 32) = w1 at *
  generalize wm.heap.size = g at *
  clear hrf hol
  have hQg := hG.at
  unfold frBox at hQg
  have hFg := hG.frozen
  have hQc := hC.at
  unfold confBox at hQc
  by_cases hq : e = 0 ∧ f.K = 3
  · have d1 : (e != 0) = false := by simp [hq.1]
    have d2 : (f.K != 3) = false := by simp [hq.2]
    have hF : F = f := by rw [HD.out, if_pos hq]
    clear HD HFr hq
    subst hF
    have hown := hof
    clear hof
    have hol := hown.lt
    obtain ⟨av, hav⟩ : ∃ av, av = fa := ⟨_, rfl⟩
    obtain ⟨cv, hcv⟩ : ∃ cv, cv = fc := ⟨_, rfl⟩
    subst hav hcv
    replace hneF : ∀ x, av = some x → x.block ≠ g := fun x hx => Nat.ne_of_lt (hneF x hx)
    (try clear hQg hFg hQc)
    have hQg := hG.at
    unfold frBox at hQg
    have hFg := hG.frozen
    have hQc := hC.at
    unfold confBox at hQc
    go_wp2_with fail
    refine (HM.out _).mono ?_
    rintro e wl ⟨rfl, rfl⟩
    have hglt := hG.lt
    have hI : Blk (w1.alloc (.cells #[.int .i64 2, .int .i64 v] 29)) w1.heap.size 29 #[.int .i64 2, .int .i64 v] := Blk.new w1 _ _
    clear hQg hFg hQc
    replace hG := hG.alloc (.cells #[.int .i64 2, .int .i64 v] 29)
    replace hC := hC.alloc (.cells #[.int .i64 2, .int .i64 v] 29)
    replace hown := hown.later (alloc_below w1 (.cells #[.int .i64 2, .int .i64 v] 29))
    replace hB := hB.alloc hB.size (.cells #[.int .i64 2, .int .i64 v] 29)
    have hbig := hB.size
    go_upto_region 9 with fail
    generalize w1.alloc (.cells #[.int .i64 2, .int .i64 v] 29) = w4 at *
    have hvb : g ≠ w1.heap.size := by omega
    have hvw : w.heap.size ≠ w1.heap.size := by omega
    have hvr : ∀ x, av = some x → x.block ≠ w1.heap.size := fun x hx => by have := (hol x.block (by rw [hx]; rfl)).2; omega
    generalize w1.heap.size = vb at *
    have hrow := hown.row (by omega) hin
    cases echo
    · have k2 : Blk ((w4.setCell ⟨g, 3, none⟩ (.int .i64 2)).setCell ⟨g, 4, none⟩ (.int .i64 v)) g 32 (frBox ⟨F.K, F.R, F.S, ⟨2, v⟩, F.E⟩ av cv) := (hG.set 3 _).set 4 _
      have hneE : F.E = [] ∨ ∀ x, av = some x → x.block ≠ g := .inr hneF
      have hC2 := (hC.far (p := ⟨g, 3, none⟩) (by show w.heap.size ≠ g; omega) (.int .i64 2)).far (p := ⟨g, 4, none⟩) (by show w.heap.size ≠ g; omega) (.int .i64 v)
      have hr2 := (hrow.far2 g 3 (.int .i64 2) hneE).far2 g 4 (.int .i64 v) hneE
      have hB2 := (hB.setCell (p := ⟨g, 3, none⟩) (by show w.heap.size ≤ g; omega) (.int .i64 2)).setCell (p := ⟨g, 4, none⟩) (by show w.heap.size ≤ g; omega) (.int .i64 v)
      have hQi := hI.at
      have hQg := hG.at
      unfold frBox at hQg
      have hFg := hG.frozen
      have hQc := hC.at
      unfold confBox at hQc
      go_upto_region 11 with fail
      generalize (w4.setCell ⟨g, 3, none⟩ (.int .i64 2)).setCell ⟨g, 4, none⟩ (.int .i64 v) = w5 at *
      clear hQi hQg hFg hQc
      have hQg := k2.at
      unfold frBox at hQg
      have hQc := hC2.at
      unfold confBox at hQc
      go_wp2_with fail
      refine (HT0.out _ av cv hr2).mono ?_
      rintro e wh ⟨rfl, hb1⟩
      go_wp2
      go_ret
      exact ⟨ret_str (by rw [HE0.out]), hB2.trans (hb1.mono hB2.size)⟩
    · have HL := Lib.hid (mixE_len ⟨2, v⟩ F.E)
      have HSet := Lib.hid (mixE_set ⟨2, v⟩ F.E)
      have hfz : ∀ b1 o1, av = some ⟨b1, o1, none⟩ → F.E ≠ [] → ∀ i, w4.frozen? ⟨b1, i, none⟩ = false := by
        intro b1 o1 hx hne i
        subst hx
        obtain ⟨g0, cap0, hv, _, _⟩ := World.ownsRow.form hown (by have := List.length_pos_iff.2 hne; omega)
        injection hv with hv
        injection hv with hv
        injection hv with hv1 hv2
        subst hv1 hv2
        exact World.ownsRow.frozenAt hown i
      have hnew : ∀ x, av = some x → w.heap.size < x.block := fun x hx => by have := (hol x.block (by rw [hx]; rfl)).1; omega
      go_upto_region 13 with fail
      go_loopw [17] (fun i w' => ∃ k : Nat, i = .int .i64 k ∧ k ≤ F.E.length ∧ Below w.heap.size w w' ∧ Blk w' w.heap.size 24 (confBox c ca cc) ∧ Blk w' g 32 (frBox F av cv) ∧ Blk w' vb 29 #[.int .i64 2, .int .i64 v] ∧ RowT w' av (mixE ⟨2, v⟩ F.E k) ∧ ∀ b1 o1, av = some ⟨b1, o1, none⟩ → F.E ≠ [] → ∀ i, w'.frozen? ⟨b1, i, none⟩ = false) (fun i _ => F.E.length - (intOf i).toNat)
      case atStart => exact ⟨0, rfl, Nat.zero_le _, hB, hC, hG, hI, hrow, hfz⟩
      case round =>
        clear hB hC hG hI hrow hfz hown
        obtain ⟨k, rfl, hk, hB, hC, hG, hI, hrow, hfz⟩ := hrel
        have hQg := hG.at
        unfold frBox at hQg
        have hFg := hG.frozen
        have hQc := hC.at
        unfold confBox at hQc
        have hQi := hI.at
        by_cases hlt : k < F.E.length
        · have d3 : decide (k < F.E.length) = true := by simpa using hlt
          have d3' : decide ((k : Int) < (F.E.length : Int)) = true := by simp; omega
          have hk2 : k < (mixE ⟨2, v⟩ F.E k).length := by rw [HL.out k hk]; exact hlt
          obtain ⟨b1, o1, rfl, hb1, hc1, hc2, _, _⟩ := hrow.get k hk2
          have zR := hfz b1 o1 rfl (fun h => by rw [h] at hlt; simp at hlt)
          have hr2 := hrow.setAt k hk2 ⟨2, v⟩ ⟨by show (-9223372036854775808 : Int) ≤ 2; omega, by show (2 : Int) ≤ 9223372036854775807; omega⟩ ⟨by show (-9223372036854775808 : Int) ≤ v; omega, by show v ≤ 9223372036854775807; omega⟩
          rw [HSet.out k hlt] at hr2
          have n1 : b1 ≠ g := hneF _ rfl
          have n2 : b1 ≠ vb := hvr _ rfl
          have n3 : w.heap.size < b1 := hnew _ rfl
          generalize (mixE ⟨2, v⟩ F.E k)[k] = t0 at *
          clear hk2 hrow
          have hll : (k : Int) < (F.E.length : Int) := by omega
          go_wp2
          go_roundw
          case rel =>
            refine ⟨k + 1, by go_num, by omega, ?_, ?_, ?_, ?_, hr2, ?_⟩
            · exact (hB.setCell (p := ⟨b1, o1 + k * 2, none⟩) (by show w.heap.size ≤ b1; omega) _).setCell (p := ⟨b1, o1 + k * 2 + 1, none⟩) (by show w.heap.size ≤ b1; omega) _
            · exact (hC.far (p := ⟨b1, o1 + k * 2, none⟩) (by show w.heap.size ≠ b1; omega) _).far (p := ⟨b1, o1 + k * 2 + 1, none⟩) (by show w.heap.size ≠ b1; omega) _
            · exact (hG.far (p := ⟨b1, o1 + k * 2, none⟩) (fun h => n1 h.symm) _).far (p := ⟨b1, o1 + k * 2 + 1, none⟩) (fun h => n1 h.symm) _
            · exact (hI.far (p := ⟨b1, o1 + k * 2, none⟩) (fun h => n2 h.symm) _).far (p := ⟨b1, o1 + k * 2 + 1, none⟩) (fun h => n2 h.symm) _
            · intro b2 o2 h2 h3 i
              rw [World.frozen?_setCell, World.frozen?_setCell]
              exact hfz b2 o2 h2 h3 i
          case measure => simp [intOf]; omega
        · have d3 : decide (k < F.E.length) = false := by simpa using hlt
          have d3' : decide ((k : Int) < (F.E.length : Int)) = false := by simp; omega
          have hkk : k = F.E.length := by omega
          have HA := Lib.hid (mixE_all ⟨2, v⟩ F.E)
          rw [hkk, HA.out] at hrow
          clear HA hkk
          go_wp2_with fail
          refine (HT1.out _ av cv hrow).mono ?_
          rintro e wh ⟨rfl, hb1⟩
          go_wp2
          go_ret
          exact ⟨ret_str (by rw [HE1.out]), hB.trans (hb1.mono hB.size)⟩
  · by_cases he : e = 0
    · have d1 : (e != 0) = false := by simp [he]
      have d2 : (f.K != 3) = true := by simp; exact fun h => hq ⟨he, h⟩
      clear he
      clear hFg hQg hQc
      have hQg := hG.at
      unfold frBox at hQg
      have hFg := hG.frozen
      have hQc := hC.at
      unfold confBox at hQc
      go_wp2_with fail
      refine (HW.out _).mono ?_
      rintro en wq ⟨rfl, hb1⟩
      replace hB := hB.trans (hb1.mono hB.size)
      replace hC := hC.later hb1
      replace hG := hG.later hb1
      clear hb1 hFg hQg hQc
      have hQg := hG.at
      unfold frBox at hQg
      have hFg := hG.frozen
      have hQc := hC.at
      unfold confBox at hQc
      have kG : Blk ((((((wq.setCell ⟨g, 0, none⟩ (.int .i64 3)).setCell ⟨g, 1, none⟩ (.int .i64 R)).setCell ⟨g, 2, none⟩ (.int .i64 s)).setCell ⟨g, 3, none⟩ (.int .i64 1)).setCell ⟨g, 4, none⟩ (.int .i64 0)).setCell ⟨g, 5, none⟩ (.slice none 0 0)) g 32 (MakeV 3 R s 1 0 (.slice none 0 0)) := (((((hG.set 0 _).set 1 _).set 2 _).set 3 _).set 4 _).set 5 _
      have kC := (((((hC.far (p := ⟨g, 0, none⟩) (by show w.heap.size ≠ g; omega) (.int .i64 3)).far (p := ⟨g, 1, none⟩) (by show w.heap.size ≠ g; omega) (.int .i64 R)).far (p := ⟨g, 2, none⟩) (by show w.heap.size ≠ g; omega) (.int .i64 s)).far (p := ⟨g, 3, none⟩) (by show w.heap.size ≠ g; omega) (.int .i64 1)).far (p := ⟨g, 4, none⟩) (by show w.heap.size ≠ g; omega) (.int .i64 0)).far (p := ⟨g, 5, none⟩) (by show w.heap.size ≠ g; omega) (.slice none 0 0)
      have kB := (((((hB.setCell (p := ⟨g, 0, none⟩) (by show w.heap.size ≤ g; omega) (.int .i64 3)).setCell (p := ⟨g, 1, none⟩) (by show w.heap.size ≤ g; omega) (.int .i64 R)).setCell (p := ⟨g, 2, none⟩) (by show w.heap.size ≤ g; omega) (.int .i64 s)).setCell (p := ⟨g, 3, none⟩) (by show w.heap.size ≤ g; omega) (.int .i64 1)).setCell (p := ⟨g, 4, none⟩) (by show w.heap.size ≤ g; omega) (.int .i64 0)).setCell (p := ⟨g, 5, none⟩) (by show w.heap.size ≤ g; omega) (.slice none 0 0)
      go_upto_region 4 with fail
      generalize (((((wq.setCell ⟨g, 0, none⟩ (.int .i64 3)).setCell ⟨g, 1, none⟩ (.int .i64 R)).setCell ⟨g, 2, none⟩ (.int .i64 s)).setCell ⟨g, 3, none⟩ (.int .i64 1)).setCell ⟨g, 4, none⟩ (.int .i64 0)).setCell ⟨g, 5, none⟩ (.slice none 0 0) = w3 at *
      clear hG hC hB hFg hQg hQc hof
      go_upto_region 5 with fail
      go_loopw [15] (fun i w' => ∃ (k : Nat) (v : Value), i = .int .i64 k ∧ ForgLoop c ca cc R s (if s < c.N then sN else 0) g k v w w') (fun i _ => 15 - (intOf i).toNat)
      case atStart => exact ⟨0, _, rfl, ⟨Nat.zero_le _, kB, kC, kG, OwnT.nil _ _⟩⟩
      case round =>
        clear kB kC kG
        obtain ⟨k, vv, rfl, hk, hB, hC, hG, hown⟩ := hrel
        have hQc := hC.at
        unfold confBox at hQc
        by_cases hs : s < c.N
        · rw [if_pos hs] at hk HFr
          have ds : decide (s < c.N) = true := by simpa using hs
          by_cases hlt : k < sN
          · have d3 : decide (k < sN) = true := by simpa using hlt
            have d3' : decide ((k : Int) < (sN : Int)) = true := by simp; omega
            go_wp2_with fail
            refine (HS.out _).mono ?_
            rintro en wz ⟨rfl, hb1⟩
            replace hB := hB.trans (hb1.mono hB.size)
            replace hC := hC.later hb1
            replace hG := hG.later hb1
            replace hown := hown.later hb1
            clear hb1 hQc
            have hQc := hC.at
            unfold confBox at hQc
            have hl5 : (List.replicate k (⟨1, 0⟩ : It)).length ≤ 15 := by simp; omega
            have HRp := Lib.hid (show List.replicate (k + 1) (⟨1, 0⟩ : It) = List.replicate k ⟨1, 0⟩ ++ [⟨1, 0⟩] from List.replicate_succ')
            have hol := hown.lt
            have hglt := hG.lt
            have g0 := hG.at
            unfold MakeV at g0
            have gf := hG.frozen
            generalize List.replicate k (⟨1, 0⟩ : It) = TS at *
            obtain ⟨av, cv, rfl⟩ := hown.form
            go_wp2_with (first
              | (at_builtin; have hx1 := hown; refine wpList_appT _ rfl _ _ rfl (g + 1) (.slice av TS.length cv) TS rfl (hown.later (alloc_below _ _)) wz.heap.size 1 ⟨1, 0⟩ rfl (heap_alloc_new _ _) (by omega) (by simp; omega) ?_; intro g5 cap5 w5 ho2 hg2 h3 h4; replace hC := (hC.alloc _).grown hg2 (fun e => by have := (hol _ e.symm).1; omega); replace hG := (hG.alloc _).grown hg2 (fun e => by have := (hol _ e.symm).1; omega); replace hB := below_grown (hB.alloc hB.size _) (hB.alloc hB.size _).size hg2 (fun x hx => by have := (hol _ hx).1; omega); clear hx1 g0 gf hQc; have g0 := hG.at; unfold MakeV at g0; have gf := hG.frozen; clear hown))
            go_roundw
            case rel =>
              refine ⟨k + 1, _, by go_num, ⟨by rw [if_pos hs]; omega, hB.setCell (p := ⟨g, 5, none⟩) (by show w.heap.size ≤ g; omega) _, hC.far (p := ⟨g, 5, none⟩) (by show w.heap.size ≠ g; omega) _, hG.set 5 _, ?_⟩⟩
              rw [HRp.out]
              exact ho2.far ⟨g, 5, none⟩ _ (by simp)
            case measure => simp [intOf]; omega
          · have d3 : decide (k < sN) = false := by simpa using hlt
            have d3' : decide ((k : Int) < (sN : Int)) = false := by simp; omega
            have hkk : k = sN := by omega
            subst hkk
            have hF : F = ⟨3, R, s, ⟨1, 0⟩, List.replicate k ⟨1, 0⟩⟩ := by rw [HD.out, if_neg hq]; exact HFr.out
            clear HD HFr hq hs hneF
            have hl5 := replicate_in
            replace hown : OwnT (g + 1) wr vv F.E := by rw [hF]; exact hown
            obtain ⟨av, cv, rfl⟩ := hown.form
            replace hG : Blk wr g 32 (frBox F av cv) := by rw [hF] at hG ⊢; exact hG
            clear hF hl5
            have hol := hown.lt
            replace hown := hown.weaken (show w.heap.size + 1 ≤ g + 1 by omega)
            have hneF : ∀ x, av = some x → x.block ≠ g := fun x hx => by have := (hol x.block (by rw [hx]; rfl)).1; omega
            replace hol : ∀ k, (Value.slice av F.E.length cv).ownBlock = some k → w.heap.size + 1 ≤ k ∧ k < wr.heap.size := fun k hk => by have := hol k hk; omega
            go_wp2_with fail
            refine (HS.out _).mono ?_
            rintro en wz ⟨rfl, hb1⟩
            replace hB := hB.trans (hb1.mono hB.size)
            replace hC := hC.later hb1
            replace hG := hG.later hb1
            replace hown := hown.later hb1
            replace hol : ∀ k, (Value.slice av F.E.length cv).ownBlock = some k → w.heap.size + 1 ≤ k ∧ k < wz.heap.size := fun k hk => by have := hol k hk; have := hb1.size; omega
            clear hb1 hQc
            have hQc := hC.at
            unfold confBox at hQc
            (try clear hQg hFg hQc)
            have hQg := hG.at
            unfold frBox at hQg
            have hFg := hG.frozen
            have hQc := hC.at
            unfold confBox at hQc
            go_wp2_with fail
            refine (HM.out _).mono ?_
            rintro e wl ⟨rfl, rfl⟩
            have hglt := hG.lt
            have hI : Blk (wz.alloc (.cells #[.int .i64 2, .int .i64 v] 29)) wz.heap.size 29 #[.int .i64 2, .int .i64 v] := Blk.new wz _ _
            clear hQg hFg hQc
            replace hG := hG.alloc (.cells #[.int .i64 2, .int .i64 v] 29)
            replace hC := hC.alloc (.cells #[.int .i64 2, .int .i64 v] 29)
            replace hown := hown.later (alloc_below wz (.cells #[.int .i64 2, .int .i64 v] 29))
            replace hB := hB.alloc hB.size (.cells #[.int .i64 2, .int .i64 v] 29)
            have hbig := hB.size
            go_upto_region 9 with fail
            generalize wz.alloc (.cells #[.int .i64 2, .int .i64 v] 29) = w4 at *
            have hvb : g ≠ wz.heap.size := by omega
            have hvw : w.heap.size ≠ wz.heap.size := by omega
            have hvr : ∀ x, av = some x → x.block ≠ wz.heap.size := fun x hx => by have := (hol x.block (by rw [hx]; rfl)).2; omega
            generalize wz.heap.size = vb at *
            have hrow := hown.row (by omega) hin
            cases echo
            · have k2 : Blk ((w4.setCell ⟨g, 3, none⟩ (.int .i64 2)).setCell ⟨g, 4, none⟩ (.int .i64 v)) g 32 (frBox ⟨F.K, F.R, F.S, ⟨2, v⟩, F.E⟩ av cv) := (hG.set 3 _).set 4 _
              have hneE : F.E = [] ∨ ∀ x, av = some x → x.block ≠ g := .inr hneF
              have hC2 := (hC.far (p := ⟨g, 3, none⟩) (by show w.heap.size ≠ g; omega) (.int .i64 2)).far (p := ⟨g, 4, none⟩) (by show w.heap.size ≠ g; omega) (.int .i64 v)
              have hr2 := (hrow.far2 g 3 (.int .i64 2) hneE).far2 g 4 (.int .i64 v) hneE
              have hB2 := (hB.setCell (p := ⟨g, 3, none⟩) (by show w.heap.size ≤ g; omega) (.int .i64 2)).setCell (p := ⟨g, 4, none⟩) (by show w.heap.size ≤ g; omega) (.int .i64 v)
              have hQi := hI.at
              have hQg := hG.at
              unfold frBox at hQg
              have hFg := hG.frozen
              have hQc := hC.at
              unfold confBox at hQc
              go_upto_region 11 with fail
              generalize (w4.setCell ⟨g, 3, none⟩ (.int .i64 2)).setCell ⟨g, 4, none⟩ (.int .i64 v) = w5 at *
              clear hQi hQg hFg hQc
              have hQg := k2.at
              unfold frBox at hQg
              have hQc := hC2.at
              unfold confBox at hQc
              go_wp2_with fail
              refine (HT0.out _ av cv hr2).mono ?_
              rintro e wh ⟨rfl, hb1⟩
              go_wp2
              go_ret
              exact ⟨ret_str (by rw [HE0.out]), hB2.trans (hb1.mono hB2.size)⟩
            · have HL := Lib.hid (mixE_len ⟨2, v⟩ F.E)
              have HSet := Lib.hid (mixE_set ⟨2, v⟩ F.E)
              have hfz : ∀ b1 o1, av = some ⟨b1, o1, none⟩ → F.E ≠ [] → ∀ i, w4.frozen? ⟨b1, i, none⟩ = false := by
                intro b1 o1 hx hne i
                subst hx
                obtain ⟨g0, cap0, hv, _, _⟩ := World.ownsRow.form hown (by have := List.length_pos_iff.2 hne; omega)
                injection hv with hv
                injection hv with hv
                injection hv with hv1 hv2
                subst hv1 hv2
                exact World.ownsRow.frozenAt hown i
              have hnew : ∀ x, av = some x → w.heap.size < x.block := fun x hx => by have := (hol x.block (by rw [hx]; rfl)).1; omega
              go_upto_region 13 with fail
              go_loopw [17] (fun i w' => ∃ k : Nat, i = .int .i64 k ∧ k ≤ F.E.length ∧ Below w.heap.size w w' ∧ Blk w' w.heap.size 24 (confBox c ca cc) ∧ Blk w' g 32 (frBox F av cv) ∧ Blk w' vb 29 #[.int .i64 2, .int .i64 v] ∧ RowT w' av (mixE ⟨2, v⟩ F.E k) ∧ ∀ b1 o1, av = some ⟨b1, o1, none⟩ → F.E ≠ [] → ∀ i, w'.frozen? ⟨b1, i, none⟩ = false) (fun i _ => F.E.length - (intOf i).toNat)
              case atStart => exact ⟨0, rfl, Nat.zero_le _, hB, hC, hG, hI, hrow, hfz⟩
              case round =>
                clear hB hC hG hI hrow hfz hown
                obtain ⟨k, rfl, hk, hB, hC, hG, hI, hrow, hfz⟩ := hrel
                have hQg := hG.at
                unfold frBox at hQg
                have hFg := hG.frozen
                have hQc := hC.at
                unfold confBox at hQc
                have hQi := hI.at
                by_cases hlt : k < F.E.length
                · have d3 : decide (k < F.E.length) = true := by simpa using hlt
                  have d3' : decide ((k : Int) < (F.E.length : Int)) = true := by simp; omega
                  have hk2 : k < (mixE ⟨2, v⟩ F.E k).length := by rw [HL.out k hk]; exact hlt
                  obtain ⟨b1, o1, rfl, hb1, hc1, hc2, _, _⟩ := hrow.get k hk2
                  have zR := hfz b1 o1 rfl (fun h => by rw [h] at hlt; simp at hlt)
                  have hr2 := hrow.setAt k hk2 ⟨2, v⟩ ⟨by show (-9223372036854775808 : Int) ≤ 2; omega, by show (2 : Int) ≤ 9223372036854775807; omega⟩ ⟨by show (-9223372036854775808 : Int) ≤ v; omega, by show v ≤ 9223372036854775807; omega⟩
                  rw [HSet.out k hlt] at hr2
                  have n1 : b1 ≠ g := hneF _ rfl
                  have n2 : b1 ≠ vb := hvr _ rfl
                  have n3 : w.heap.size < b1 := hnew _ rfl
                  generalize (mixE ⟨2, v⟩ F.E k)[k] = t0 at *
                  clear hk2 hrow
                  have hll : (k : Int) < (F.E.length : Int) := by omega
                  go_wp2
                  go_roundw
                  case rel =>
                    refine ⟨k + 1, by go_num, by omega, ?_, ?_, ?_, ?_, hr2, ?_⟩
                    · exact (hB.setCell (p := ⟨b1, o1 + k * 2, none⟩) (by show w.heap.size ≤ b1; omega) _).setCell (p := ⟨b1, o1 + k * 2 + 1, none⟩) (by show w.heap.size ≤ b1; omega) _
                    · exact (hC.far (p := ⟨b1, o1 + k * 2, none⟩) (by show w.heap.size ≠ b1; omega) _).far (p := ⟨b1, o1 + k * 2 + 1, none⟩) (by show w.heap.size ≠ b1; omega) _
                    · exact (hG.far (p := ⟨b1, o1 + k * 2, none⟩) (fun h => n1 h.symm) _).far (p := ⟨b1, o1 + k * 2 + 1, none⟩) (fun h => n1 h.symm) _
                    · exact (hI.far (p := ⟨b1, o1 + k * 2, none⟩) (fun h => n2 h.symm) _).far (p := ⟨b1, o1 + k * 2 + 1, none⟩) (fun h => n2 h.symm) _
                    · intro b2 o2 h2 h3 i
                      rw [World.frozen?_setCell, World.frozen?_setCell]
                      exact hfz b2 o2 h2 h3 i
                  case measure => simp [intOf]; omega
                · have d3 : decide (k < F.E.length) = false := by simpa using hlt
                  have d3' : decide ((k : Int) < (F.E.length : Int)) = false := by simp; omega
                  have hkk : k = F.E.length := by omega
                  have HA := Lib.hid (mixE_all ⟨2, v⟩ F.E)
                  rw [hkk, HA.out] at hrow
                  clear HA hkk
                  go_wp2_with fail
                  refine (HT1.out _ av cv hrow).mono ?_
                  rintro e wh ⟨rfl, hb1⟩
                  go_wp2
                  go_ret
                  exact ⟨ret_str (by rw [HE1.out]), hB.trans (hb1.mono hB.size)⟩
        · rw [if_neg hs] at hk HFr
          have ds : decide (s < c.N) = false := by simpa using hs
          have hkk : k = 0 := by omega
          subst hkk
          have d3 : decide (0 < sN) = true := by simp; omega
          have d3' : decide (((0 : Nat) : Int) < (sN : Int)) = true := by simp; omega
          have hF : F = ⟨3, R, s, ⟨1, 0⟩, List.replicate 0 ⟨1, 0⟩⟩ := by rw [HD.out, if_neg hq]; exact HFr.out
          clear HD HFr hq hs hneF
          have hl5 := replicate_in
          replace hown : OwnT (g + 1) wr vv F.E := by rw [hF]; exact hown
          obtain ⟨av, cv, rfl⟩ := hown.form
          replace hG : Blk wr g 32 (frBox F av cv) := by rw [hF] at hG ⊢; exact hG
          clear hF hl5
          have hol := hown.lt
          replace hown := hown.weaken (show w.heap.size + 1 ≤ g + 1 by omega)
          have hneF : ∀ x, av = some x → x.block ≠ g := fun x hx => by have := (hol x.block (by rw [hx]; rfl)).1; omega
          replace hol : ∀ k, (Value.slice av F.E.length cv).ownBlock = some k → w.heap.size + 1 ≤ k ∧ k < wr.heap.size := fun k hk => by have := hol k hk; omega
          go_wp2_with fail
          refine (HS.out _).mono ?_
          rintro en wz ⟨rfl, hb1⟩
          replace hB := hB.trans (hb1.mono hB.size)
          replace hC := hC.later hb1
          replace hG := hG.later hb1
          replace hown := hown.later hb1
          replace hol : ∀ k, (Value.slice av F.E.length cv).ownBlock = some k → w.heap.size + 1 ≤ k ∧ k < wz.heap.size := fun k hk => by have := hol k hk; have := hb1.size; omega
          clear hb1 hQc
          have hQc := hC.at
          unfold confBox at hQc
          (try clear hQg hFg hQc)
          have hQg := hG.at
          unfold frBox at hQg
          have hFg := hG.frozen
          have hQc := hC.at
          unfold confBox at hQc
          go_wp2_with fail
          refine (HM.out _).mono ?_
          rintro e wl ⟨rfl, rfl⟩
          have hglt := hG.lt
          have hI : Blk (wz.alloc (.cells #[.int .i64 2, .int .i64 v] 29)) wz.heap.size 29 #[.int .i64 2, .int .i64 v] := Blk.new wz _ _
          clear hQg hFg hQc
          replace hG := hG.alloc (.cells #[.int .i64 2, .int .i64 v] 29)
          replace hC := hC.alloc (.cells #[.int .i64 2, .int .i64 v] 29)
          replace hown := hown.later (alloc_below wz (.cells #[.int .i64 2, .int .i64 v] 29))
          replace hB := hB.alloc hB.size (.cells #[.int .i64 2, .int .i64 v] 29)
          have hbig := hB.size
          go_upto_region 9 with fail
          generalize wz.alloc (.cells #[.int .i64 2, .int .i64 v] 29) = w4 at *
          have hvb : g ≠ wz.heap.size := by omega
          have hvw : w.heap.size ≠ wz.heap.size := by omega
          have hvr : ∀ x, av = some x → x.block ≠ wz.heap.size := fun x hx => by have := (hol x.block (by rw [hx]; rfl)).2; omega
          generalize wz.heap.size = vb at *
          have hrow := hown.row (by omega) hin
          cases echo
          · have k2 : Blk ((w4.setCell ⟨g, 3, none⟩ (.int .i64 2)).setCell ⟨g, 4, none⟩ (.int .i64 v)) g 32 (frBox ⟨F.K, F.R, F.S, ⟨2, v⟩, F.E⟩ av cv) := (hG.set 3 _).set 4 _
            have hneE : F.E = [] ∨ ∀ x, av = some x → x.block ≠ g := .inr hneF
            have hC2 := (hC.far (p := ⟨g, 3, none⟩) (by show w.heap.size ≠ g; omega) (.int .i64 2)).far (p := ⟨g, 4, none⟩) (by show w.heap.size ≠ g; omega) (.int .i64 v)
            have hr2 := (hrow.far2 g 3 (.int .i64 2) hneE).far2 g 4 (.int .i64 v) hneE
            have hB2 := (hB.setCell (p := ⟨g, 3, none⟩) (by show w.heap.size ≤ g; omega) (.int .i64 2)).setCell (p := ⟨g, 4, none⟩) (by show w.heap.size ≤ g; omega) (.int .i64 v)
            have hQi := hI.at
            have hQg := hG.at
            unfold frBox at hQg
            have hFg := hG.frozen
            have hQc := hC.at
            unfold confBox at hQc
            go_upto_region 11 with fail
            generalize (w4.setCell ⟨g, 3, none⟩ (.int .i64 2)).setCell ⟨g, 4, none⟩ (.int .i64 v) = w5 at *
            clear hQi hQg hFg hQc
            have hQg := k2.at
            unfold frBox at hQg
            have hQc := hC2.at
            unfold confBox at hQc
            go_wp2_with fail
            refine (HT0.out _ av cv hr2).mono ?_
            rintro e wh ⟨rfl, hb1⟩
            go_wp2
            go_ret
            exact ⟨ret_str (by rw [HE0.out]), hB2.trans (hb1.mono hB2.size)⟩
          · have HL := Lib.hid (mixE_len ⟨2, v⟩ F.E)
            have HSet := Lib.hid (mixE_set ⟨2, v⟩ F.E)
            have hfz : ∀ b1 o1, av = some ⟨b1, o1, none⟩ → F.E ≠ [] → ∀ i, w4.frozen? ⟨b1, i, none⟩ = false := by
              intro b1 o1 hx hne i
              subst hx
              obtain ⟨g0, cap0, hv, _, _⟩ := World.ownsRow.form hown (by have := List.length_pos_iff.2 hne; omega)
              injection hv with hv
              injection hv with hv
              injection hv with hv1 hv2
              subst hv1 hv2
              exact World.ownsRow.frozenAt hown i
            have hnew : ∀ x, av = some x → w.heap.size < x.block := fun x hx => by have := (hol x.block (by rw [hx]; rfl)).1; omega
            go_upto_region 13 with fail
            go_loopw [17] (fun i w' => ∃ k : Nat, i = .int .i64 k ∧ k ≤ F.E.length ∧ Below w.heap.size w w' ∧ Blk w' w.heap.size 24 (confBox c ca cc) ∧ Blk w' g 32 (frBox F av cv) ∧ Blk w' vb 29 #[.int .i64 2, .int .i64 v] ∧ RowT w' av (mixE ⟨2, v⟩ F.E k) ∧ ∀ b1 o1, av = some ⟨b1, o1, none⟩ → F.E ≠ [] → ∀ i, w'.frozen? ⟨b1, i, none⟩ = false) (fun i _ => F.E.length - (intOf i).toNat)
            case atStart => exact ⟨0, rfl, Nat.zero_le _, hB, hC, hG, hI, hrow, hfz⟩
            case round =>
              clear hB hC hG hI hrow hfz hown
              obtain ⟨k, rfl, hk, hB, hC, hG, hI, hrow, hfz⟩ := hrel
              have hQg := hG.at
              unfold frBox at hQg
              have hFg := hG.frozen
              have hQc := hC.at
              unfold confBox at hQc
              have hQi := hI.at
              by_cases hlt : k < F.E.length
              · have d3 : decide (k < F.E.length) = true := by simpa using hlt
                have d3' : decide ((k : Int) < (F.E.length : Int)) = true := by simp; omega
                have hk2 : k < (mixE ⟨2, v⟩ F.E k).length := by rw [HL.out k hk]; exact hlt
                obtain ⟨b1, o1, rfl, hb1, hc1, hc2, _, _⟩ := hrow.get k hk2
                have zR := hfz b1 o1 rfl (fun h => by rw [h] at hlt; simp at hlt)
                have hr2 := hrow.setAt k hk2 ⟨2, v⟩ ⟨by show (-9223372036854775808 : Int) ≤ 2; omega, by show (2 : Int) ≤ 9223372036854775807; omega⟩ ⟨by show (-9223372036854775808 : Int) ≤ v; omega, by show v ≤ 9223372036854775807; omega⟩
                rw [HSet.out k hlt] at hr2
                have n1 : b1 ≠ g := hneF _ rfl
                have n2 : b1 ≠ vb := hvr _ rfl
                have n3 : w.heap.size < b1 := hnew _ rfl
                generalize (mixE ⟨2, v⟩ F.E k)[k] = t0 at *
                clear hk2 hrow
                have hll : (k : Int) < (F.E.length : Int) := by omega
                go_wp2
                go_roundw
                case rel =>
                  refine ⟨k + 1, by go_num, by omega, ?_, ?_, ?_, ?_, hr2, ?_⟩
                  · exact (hB.setCell (p := ⟨b1, o1 + k * 2, none⟩) (by show w.heap.size ≤ b1; omega) _).setCell (p := ⟨b1, o1 + k * 2 + 1, none⟩) (by show w.heap.size ≤ b1; omega) _
                  · exact (hC.far (p := ⟨b1, o1 + k * 2, none⟩) (by show w.heap.size ≠ b1; omega) _).far (p := ⟨b1, o1 + k * 2 + 1, none⟩) (by show w.heap.size ≠ b1; omega) _
                  · exact (hG.far (p := ⟨b1, o1 + k * 2, none⟩) (fun h => n1 h.symm) _).far (p := ⟨b1, o1 + k * 2 + 1, none⟩) (fun h => n1 h.symm) _
                  · exact (hI.far (p := ⟨b1, o1 + k * 2, none⟩) (fun h => n2 h.symm) _).far (p := ⟨b1, o1 + k * 2 + 1, none⟩) (fun h => n2 h.symm) _
                  · intro b2 o2 h2 h3 i
                    rw [World.frozen?_setCell, World.frozen?_setCell]
                    exact hfz b2 o2 h2 h3 i
                case measure => simp [intOf]; omega
              · have d3 : decide (k < F.E.length) = false := by simpa using hlt
                have d3' : decide ((k : Int) < (F.E.length : Int)) = false := by simp; omega
                have hkk : k = F.E.length := by omega
                have HA := Lib.hid (mixE_all ⟨2, v⟩ F.E)
                rw [hkk, HA.out] at hrow
                clear HA hkk
                go_wp2_with fail
                refine (HT1.out _ av cv hrow).mono ?_
                rintro e wh ⟨rfl, hb1⟩
                go_wp2
                go_ret
                exact ⟨ret_str (by rw [HE1.out]), hB.trans (hb1.mono hB.size)⟩
    · have d1 : (e != 0) = true := by simpa using he
      clear he
      clear hFg hQg hQc
      have hQg := hG.at
      unfold frBox at hQg
      have hFg := hG.frozen
      have hQc := hC.at
      unfold confBox at hQc
      go_wp2_with fail
      refine (HW.out _).mono ?_
      rintro en wq ⟨rfl, hb1⟩
      replace hB := hB.trans (hb1.mono hB.size)
      replace hC := hC.later hb1
      replace hG := hG.later hb1
      clear hb1 hFg hQg hQc
      have hQg := hG.at
      unfold frBox at hQg
      have hFg := hG.frozen
      have hQc := hC.at
      unfold confBox at hQc
      have kG : Blk ((((((wq.setCell ⟨g, 0, none⟩ (.int .i64 3)).setCell ⟨g, 1, none⟩ (.int .i64 R)).setCell ⟨g, 2, none⟩ (.int .i64 s)).setCell ⟨g, 3, none⟩ (.int .i64 1)).setCell ⟨g, 4, none⟩ (.int .i64 0)).setCell ⟨g, 5, none⟩ (.slice none 0 0)) g 32 (MakeV 3 R s 1 0 (.slice none 0 0)) := (((((hG.set 0 _).set 1 _).set 2 _).set 3 _).set 4 _).set 5 _
      have kC := (((((hC.far (p := ⟨g, 0, none⟩) (by show w.heap.size ≠ g; omega) (.int .i64 3)).far (p := ⟨g, 1, none⟩) (by show w.heap.size ≠ g; omega) (.int .i64 R)).far (p := ⟨g, 2, none⟩) (by show w.heap.size ≠ g; omega) (.int .i64 s)).far (p := ⟨g, 3, none⟩) (by show w.heap.size ≠ g; omega) (.int .i64 1)).far (p := ⟨g, 4, none⟩) (by show w.heap.size ≠ g; omega) (.int .i64 0)).far (p := ⟨g, 5, none⟩) (by show w.heap.size ≠ g; omega) (.slice none 0 0)
      have kB := (((((hB.setCell (p := ⟨g, 0, none⟩) (by show w.heap.size ≤ g; omega) (.int .i64 3)).setCell (p := ⟨g, 1, none⟩) (by show w.heap.size ≤ g; omega) (.int .i64 R)).setCell (p := ⟨g, 2, none⟩) (by show w.heap.size ≤ g; omega) (.int .i64 s)).setCell (p := ⟨g, 3, none⟩) (by show w.heap.size ≤ g; omega) (.int .i64 1)).setCell (p := ⟨g, 4, none⟩) (by show w.heap.size ≤ g; omega) (.int .i64 0)).setCell (p := ⟨g, 5, none⟩) (by show w.heap.size ≤ g; omega) (.slice none 0 0)
      go_upto_region 4 with fail
      generalize (((((wq.setCell ⟨g, 0, none⟩ (.int .i64 3)).setCell ⟨g, 1, none⟩ (.int .i64 R)).setCell ⟨g, 2, none⟩ (.int .i64 s)).setCell ⟨g, 3, none⟩ (.int .i64 1)).setCell ⟨g, 4, none⟩ (.int .i64 0)).setCell ⟨g, 5, none⟩ (.slice none 0 0) = w3 at *
      clear hG hC hB hFg hQg hQc hof
      go_upto_region 5 with fail
      go_loopw [15] (fun i w' => ∃ (k : Nat) (v : Value), i = .int .i64 k ∧ ForgLoop c ca cc R s (if s < c.N then sN else 0) g k v w w') (fun i _ => 15 - (intOf i).toNat)
      case atStart => exact ⟨0, _, rfl, ⟨Nat.zero_le _, kB, kC, kG, OwnT.nil _ _⟩⟩
      case round =>
        clear kB kC kG
        obtain ⟨k, vv, rfl, hk, hB, hC, hG, hown⟩ := hrel
        have hQc := hC.at
        unfold confBox at hQc
        by_cases hs : s < c.N
        · rw [if_pos hs] at hk HFr
          have ds : decide (s < c.N) = true := by simpa using hs
          by_cases hlt : k < sN
          · have d3 : decide (k < sN) = true := by simpa using hlt
            have d3' : decide ((k : Int) < (sN : Int)) = true := by simp; omega
            go_wp2_with fail
            refine (HS.out _).mono ?_
            rintro en wz ⟨rfl, hb1⟩
            replace hB := hB.trans (hb1.mono hB.size)
            replace hC := hC.later hb1
            replace hG := hG.later hb1
            replace hown := hown.later hb1
            clear hb1 hQc
            have hQc := hC.at
            unfold confBox at hQc
            have hl5 : (List.replicate k (⟨1, 0⟩ : It)).length ≤ 15 := by simp; omega
            have HRp := Lib.hid (show List.replicate (k + 1) (⟨1, 0⟩ : It) = List.replicate k ⟨1, 0⟩ ++ [⟨1, 0⟩] from List.replicate_succ')
            have hol := hown.lt
            have hglt := hG.lt
            have g0 := hG.at
            unfold MakeV at g0
            have gf := hG.frozen
            generalize List.replicate k (⟨1, 0⟩ : It) = TS at *
            obtain ⟨av, cv, rfl⟩ := hown.form
            go_wp2_with (first
              | (at_builtin; have hx1 := hown; refine wpList_appT _ rfl _ _ rfl (g + 1) (.slice av TS.length cv) TS rfl (hown.later (alloc_below _ _)) wz.heap.size 1 ⟨1, 0⟩ rfl (heap_alloc_new _ _) (by omega) (by simp; omega) ?_; intro g5 cap5 w5 ho2 hg2 h3 h4; replace hC := (hC.alloc _).grown hg2 (fun e => by have := (hol _ e.symm).1; omega); replace hG := (hG.alloc _).grown hg2 (fun e => by have := (hol _ e.symm).1; omega); replace hB := below_grown (hB.alloc hB.size _) (hB.alloc hB.size _).size hg2 (fun x hx => by have := (hol _ hx).1; omega); clear hx1 g0 gf hQc; have g0 := hG.at; unfold MakeV at g0; have gf := hG.frozen; clear hown))
            go_roundw
            case rel =>
              refine ⟨k + 1, _, by go_num, ⟨by rw [if_pos hs]; omega, hB.setCell (p := ⟨g, 5, none⟩) (by show w.heap.size ≤ g; omega) _, hC.far (p := ⟨g, 5, none⟩) (by show w.heap.size ≠ g; omega) _, hG.set 5 _, ?_⟩⟩
              rw [HRp.out]
              exact ho2.far ⟨g, 5, none⟩ _ (by simp)
            case measure => simp [intOf]; omega
          · have d3 : decide (k < sN) = false := by simpa using hlt
            have d3' : decide ((k : Int) < (sN : Int)) = false := by simp; omega
            have hkk : k = sN := by omega
            subst hkk
            have hF : F = ⟨3, R, s, ⟨1, 0⟩, List.replicate k ⟨1, 0⟩⟩ := by rw [HD.out, if_neg hq]; exact HFr.out
            clear HD HFr hq hs hneF
            have hl5 := replicate_in
            replace hown : OwnT (g + 1) wr vv F.E := by rw [hF]; exact hown
            obtain ⟨av, cv, rfl⟩ := hown.form
            replace hG : Blk wr g 32 (frBox F av cv) := by rw [hF] at hG ⊢; exact hG
            clear hF hl5
            have hol := hown.lt
            replace hown := hown.weaken (show w.heap.size + 1 ≤ g + 1 by omega)
            have hneF : ∀ x, av = some x → x.block ≠ g := fun x hx => by have := (hol x.block (by rw [hx]; rfl)).1; omega
            replace hol : ∀ k, (Value.slice av F.E.length cv).ownBlock = some k → w.heap.size + 1 ≤ k ∧ k < wr.heap.size := fun k hk => by have := hol k hk; omega
            go_wp2_with fail
            refine (HS.out _).mono ?_
            rintro en wz ⟨rfl, hb1⟩
            replace hB := hB.trans (hb1.mono hB.size)
            replace hC := hC.later hb1
            replace hG := hG.later hb1
            replace hown := hown.later hb1
            replace hol : ∀ k, (Value.slice av F.E.length cv).ownBlock = some k → w.heap.size + 1 ≤ k ∧ k < wz.heap.size := fun k hk => by have := hol k hk; have := hb1.size; omega
            clear hb1 hQc
            have hQc := hC.at
            unfold confBox at hQc
            (try clear hQg hFg hQc)
            have hQg := hG.at
            unfold frBox at hQg
            have hFg := hG.frozen
            have hQc := hC.at
            unfold confBox at hQc
            go_wp2_with fail
            refine (HM.out _).mono ?_
            rintro e wl ⟨rfl, rfl⟩
            have hglt := hG.lt
            have hI : Blk (wz.alloc (.cells #[.int .i64 2, .int .i64 v] 29)) wz.heap.size 29 #[.int .i64 2, .int .i64 v] := Blk.new wz _ _
            clear hQg hFg hQc
            replace hG := hG.alloc (.cells #[.int .i64 2, .int .i64 v] 29)
            replace hC := hC.alloc (.cells #[.int .i64 2, .int .i64 v] 29)
            replace hown := hown.later (alloc_below wz (.cells #[.int .i64 2, .int .i64 v] 29))
            replace hB := hB.alloc hB.size (.cells #[.int .i64 2, .int .i64 v] 29)
            have hbig := hB.size
            go_upto_region 9 with fail
            generalize wz.alloc (.cells #[.int .i64 2, .int .i64 v] 29) = w4 at *
            have hvb : g ≠ wz.heap.size := by omega
            have hvw : w.heap.size ≠ wz.heap.size := by omega
            have hvr : ∀ x, av = some x → x.block ≠ wz.heap.size := fun x hx => by have := (hol x.block (by rw [hx]; rfl)).2; omega
            generalize wz.heap.size = vb at *
            have hrow := hown.row (by omega) hin
            cases echo
            · have k2 : Blk ((w4.setCell ⟨g, 3, none⟩ (.int .i64 2)).setCell ⟨g, 4, none⟩ (.int .i64 v)) g 32 (frBox ⟨F.K, F.R, F.S, ⟨2, v⟩, F.E⟩ av cv) := (hG.set 3 _).set 4 _
              have hneE : F.E = [] ∨ ∀ x, av = some x → x.block ≠ g := .inr hneF
              have hC2 := (hC.far (p := ⟨g, 3, none⟩) (by show w.heap.size ≠ g; omega) (.int .i64 2)).far (p := ⟨g, 4, none⟩) (by show w.heap.size ≠ g; omega) (.int .i64 v)
              have hr2 := (hrow.far2 g 3 (.int .i64 2) hneE).far2 g 4 (.int .i64 v) hneE
              have hB2 := (hB.setCell (p := ⟨g, 3, none⟩) (by show w.heap.size ≤ g; omega) (.int .i64 2)).setCell (p := ⟨g, 4, none⟩) (by show w.heap.size ≤ g; omega) (.int .i64 v)
              have hQi := hI.at
              have hQg := hG.at
              unfold frBox at hQg
              have hFg := hG.frozen
              have hQc := hC.at
              unfold confBox at hQc
              go_upto_region 11 with fail
              generalize (w4.setCell ⟨g, 3, none⟩ (.int .i64 2)).setCell ⟨g, 4, none⟩ (.int .i64 v) = w5 at *
              clear hQi hQg hFg hQc
              have hQg := k2.at
              unfold frBox at hQg
              have hQc := hC2.at
              unfold confBox at hQc
              go_wp2_with fail
              refine (HT0.out _ av cv hr2).mono ?_
              rintro e wh ⟨rfl, hb1⟩
              go_wp2
              go_ret
              exact ⟨ret_str (by rw [HE0.out]), hB2.trans (hb1.mono hB2.size)⟩
            · have HL := Lib.hid (mixE_len ⟨2, v⟩ F.E)
              have HSet := Lib.hid (mixE_set ⟨2, v⟩ F.E)
              have hfz : ∀ b1 o1, av = some ⟨b1, o1, none⟩ → F.E ≠ [] → ∀ i, w4.frozen? ⟨b1, i, none⟩ = false := by
                intro b1 o1 hx hne i
                subst hx
                obtain ⟨g0, cap0, hv, _, _⟩ := World.ownsRow.form hown (by have := List.length_pos_iff.2 hne; omega)
                injection hv with hv
                injection hv with hv
                injection hv with hv1 hv2
                subst hv1 hv2
                exact World.ownsRow.frozenAt hown i
              have hnew : ∀ x, av = some x → w.heap.size < x.block := fun x hx => by have := (hol x.block (by rw [hx]; rfl)).1; omega
              go_upto_region 13 with fail
              go_loopw [17] (fun i w' => ∃ k : Nat, i = .int .i64 k ∧ k ≤ F.E.length ∧ Below w.heap.size w w' ∧ Blk w' w.heap.size 24 (confBox c ca cc) ∧ Blk w' g 32 (frBox F av cv) ∧ Blk w' vb 29 #[.int .i64 2, .int .i64 v] ∧ RowT w' av (mixE ⟨2, v⟩ F.E k) ∧ ∀ b1 o1, av = some ⟨b1, o1, none⟩ → F.E ≠ [] → ∀ i, w'.frozen? ⟨b1, i, none⟩ = false) (fun i _ => F.E.length - (intOf i).toNat)
              case atStart => exact ⟨0, rfl, Nat.zero_le _, hB, hC, hG, hI, hrow, hfz⟩
              case round =>
                clear hB hC hG hI hrow hfz hown
                obtain ⟨k, rfl, hk, hB, hC, hG, hI, hrow, hfz⟩ := hrel
                have hQg := hG.at
                unfold frBox at hQg
                have hFg := hG.frozen
                have hQc := hC.at
                unfold confBox at hQc
                have hQi := hI.at
                by_cases hlt : k < F.E.length
                · have d3 : decide (k < F.E.length) = true := by simpa using hlt
                  have d3' : decide ((k : Int) < (F.E.length : Int)) = true := by simp; omega
                  have hk2 : k < (mixE ⟨2, v⟩ F.E k).length := by rw [HL.out k hk]; exact hlt
                  obtain ⟨b1, o1, rfl, hb1, hc1, hc2, _, _⟩ := hrow.get k hk2
                  have zR := hfz b1 o1 rfl (fun h => by rw [h] at hlt; simp at hlt)
                  have hr2 := hrow.setAt k hk2 ⟨2, v⟩ ⟨by show (-9223372036854775808 : Int) ≤ 2; omega, by show (2 : Int) ≤ 9223372036854775807; omega⟩ ⟨by show (-9223372036854775808 : Int) ≤ v; omega, by show v ≤ 9223372036854775807; omega⟩
                  rw [HSet.out k hlt] at hr2
                  have n1 : b1 ≠ g := hneF _ rfl
                  have n2 : b1 ≠ vb := hvr _ rfl
                  have n3 : w.heap.size < b1 := hnew _ rfl
                  generalize (mixE ⟨2, v⟩ F.E k)[k] = t0 at *
                  clear hk2 hrow
                  have hll : (k : Int) < (F.E.length : Int) := by omega
                  go_wp2
                  go_roundw
                  case rel =>
                    refine ⟨k + 1, by go_num, by omega, ?_, ?_, ?_, ?_, hr2, ?_⟩
                    · exact (hB.setCell (p := ⟨b1, o1 + k * 2, none⟩) (by show w.heap.size ≤ b1; omega) _).setCell (p := ⟨b1, o1 + k * 2 + 1, none⟩) (by show w.heap.size ≤ b1; omega) _
                    · exact (hC.far (p := ⟨b1, o1 + k * 2, none⟩) (by show w.heap.size ≠ b1; omega) _).far (p := ⟨b1, o1 + k * 2 + 1, none⟩) (by show w.heap.size ≠ b1; omega) _
                    · exact (hG.far (p := ⟨b1, o1 + k * 2, none⟩) (fun h => n1 h.symm) _).far (p := ⟨b1, o1 + k * 2 + 1, none⟩) (fun h => n1 h.symm) _
                    · exact (hI.far (p := ⟨b1, o1 + k * 2, none⟩) (fun h => n2 h.symm) _).far (p := ⟨b1, o1 + k * 2 + 1, none⟩) (fun h => n2 h.symm) _
                    · intro b2 o2 h2 h3 i
                      rw [World.frozen?_setCell, World.frozen?_setCell]
                      exact hfz b2 o2 h2 h3 i
                  case measure => simp [intOf]; omega
                · have d3 : decide (k < F.E.length) = false := by simpa using hlt
                  have d3' : decide ((k : Int) < (F.E.length : Int)) = false := by simp; omega
                  have hkk : k = F.E.length := by omega
                  have HA := Lib.hid (mixE_all ⟨2, v⟩ F.E)
                  rw [hkk, HA.out] at hrow
                  clear HA hkk
                  go_wp2_with fail
                  refine (HT1.out _ av cv hrow).mono ?_
                  rintro e wh ⟨rfl, hb1⟩
                  go_wp2
                  go_ret
                  exact ⟨ret_str (by rw [HE1.out]), hB.trans (hb1.mono hB.size)⟩
        · rw [if_neg hs] at hk HFr
          have ds : decide (s < c.N) = false := by simpa using hs
          have hkk : k = 0 := by omega
          subst hkk
          have d3 : decide (0 < sN) = true := by simp; omega
          have d3' : decide (((0 : Nat) : Int) < (sN : Int)) = true := by simp; omega
          have hF : F = ⟨3, R, s, ⟨1, 0⟩, List.replicate 0 ⟨1, 0⟩⟩ := by rw [HD.out, if_neg hq]; exact HFr.out
          clear HD HFr hq hs hneF
          have hl5 := replicate_in
          replace hown : OwnT (g + 1) wr vv F.E := by rw [hF]; exact hown
          obtain ⟨av, cv, rfl⟩ := hown.form
          replace hG : Blk wr g 32 (frBox F av cv) := by rw [hF] at hG ⊢; exact hG
          clear hF hl5
          have hol := hown.lt
          replace hown := hown.weaken (show w.heap.size + 1 ≤ g + 1 by omega)
          have hneF : ∀ x, av = some x → x.block ≠ g := fun x hx => by have := (hol x.block (by rw [hx]; rfl)).1; omega
          replace hol : ∀ k, (Value.slice av F.E.length cv).ownBlock = some k → w.heap.size + 1 ≤ k ∧ k < wr.heap.size := fun k hk => by have := hol k hk; omega
          go_wp2_with fail
          refine (HS.out _).mono ?_
          rintro en wz ⟨rfl, hb1⟩
          replace hB := hB.trans (hb1.mono hB.size)
          replace hC := hC.later hb1
          replace hG := hG.later hb1
          replace hown := hown.later hb1
          replace hol : ∀ k, (Value.slice av F.E.length cv).ownBlock = some k → w.heap.size + 1 ≤ k ∧ k < wz.heap.size := fun k hk => by have := hol k hk; have := hb1.size; omega
          clear hb1 hQc
          have hQc := hC.at
          unfold confBox at hQc
          (try clear hQg hFg hQc)
          have hQg := hG.at
          unfold frBox at hQg
          have hFg := hG.frozen
          have hQc := hC.at
          unfold confBox at hQc
          go_wp2_with fail
          refine (HM.out _).mono ?_
          rintro e wl ⟨rfl, rfl⟩
          have hglt := hG.lt
          have hI : Blk (wz.alloc (.cells #[.int .i64 2, .int .i64 v] 29)) wz.heap.size 29 #[.int .i64 2, .int .i64 v] := Blk.new wz _ _
          clear hQg hFg hQc
          replace hG := hG.alloc (.cells #[.int .i64 2, .int .i64 v] 29)
          replace hC := hC.alloc (.cells #[.int .i64 2, .int .i64 v] 29)
          replace hown := hown.later (alloc_below wz (.cells #[.int .i64 2, .int .i64 v] 29))
          replace hB := hB.alloc hB.size (.cells #[.int .i64 2, .int .i64 v] 29)
          have hbig := hB.size
          go_upto_region 9 with fail
          generalize wz.alloc (.cells #[.int .i64 2, .int .i64 v] 29) = w4 at *
          have hvb : g ≠ wz.heap.size := by omega
          have hvw : w.heap.size ≠ wz.heap.size := by omega
          have hvr : ∀ x, av = some x → x.block ≠ wz.heap.size := fun x hx => by have := (hol x.block (by rw [hx]; rfl)).2; omega
          generalize wz.heap.size = vb at *
          have hrow := hown.row (by omega) hin
          cases echo
          · have k2 : Blk ((w4.setCell ⟨g, 3, none⟩ (.int .i64 2)).setCell ⟨g, 4, none⟩ (.int .i64 v)) g 32 (frBox ⟨F.K, F.R, F.S, ⟨2, v⟩, F.E⟩ av cv) := (hG.set 3 _).set 4 _
            have hneE : F.E = [] ∨ ∀ x, av = some x → x.block ≠ g := .inr hneF
            have hC2 := (hC.far (p := ⟨g, 3, none⟩) (by show w.heap.size ≠ g; omega) (.int .i64 2)).far (p := ⟨g, 4, none⟩) (by show w.heap.size ≠ g; omega) (.int .i64 v)
            have hr2 := (hrow.far2 g 3 (.int .i64 2) hneE).far2 g 4 (.int .i64 v) hneE
            have hB2 := (hB.setCell (p := ⟨g, 3, none⟩) (by show w.heap.size ≤ g; omega) (.int .i64 2)).setCell (p := ⟨g, 4, none⟩) (by show w.heap.size ≤ g; omega) (.int .i64 v)
            have hQi := hI.at
            have hQg := hG.at
            unfold frBox at hQg
            have hFg := hG.frozen
            have hQc := hC.at
            unfold confBox at hQc
            go_upto_region 11 with fail
            generalize (w4.setCell ⟨g, 3, none⟩ (.int .i64 2)).setCell ⟨g, 4, none⟩ (.int .i64 v) = w5 at *
            clear hQi hQg hFg hQc
            have hQg := k2.at
            unfold frBox at hQg
            have hQc := hC2.at
            unfold confBox at hQc
            go_wp2_with fail
            refine (HT0.out _ av cv hr2).mono ?_
            rintro e wh ⟨rfl, hb1⟩
            go_wp2
            go_ret
            exact ⟨ret_str (by rw [HE0.out]), hB2.trans (hb1.mono hB2.size)⟩
          · have HL := Lib.hid (mixE_len ⟨2, v⟩ F.E)
            have HSet := Lib.hid (mixE_set ⟨2, v⟩ F.E)
            have hfz : ∀ b1 o1, av = some ⟨b1, o1, none⟩ → F.E ≠ [] → ∀ i, w4.frozen? ⟨b1, i, none⟩ = false := by
              intro b1 o1 hx hne i
              subst hx
              obtain ⟨g0, cap0, hv, _, _⟩ := World.ownsRow.form hown (by have := List.length_pos_iff.2 hne; omega)
              injection hv with hv
              injection hv with hv
              injection hv with hv1 hv2
              subst hv1 hv2
              exact World.ownsRow.frozenAt hown i
            have hnew : ∀ x, av = some x → w.heap.size < x.block := fun x hx => by have := (hol x.block (by rw [hx]; rfl)).1; omega
            go_upto_region 13 with fail
            go_loopw [17] (fun i w' => ∃ k : Nat, i = .int .i64 k ∧ k ≤ F.E.length ∧ Below w.heap.size w w' ∧ Blk w' w.heap.size 24 (confBox c ca cc) ∧ Blk w' g 32 (frBox F av cv) ∧ Blk w' vb 29 #[.int .i64 2, .int .i64 v] ∧ RowT w' av (mixE ⟨2, v⟩ F.E k) ∧ ∀ b1 o1, av = some ⟨b1, o1, none⟩ → F.E ≠ [] → ∀ i, w'.frozen? ⟨b1, i, none⟩ = false) (fun i _ => F.E.length - (intOf i).toNat)
            case atStart => exact ⟨0, rfl, Nat.zero_le _, hB, hC, hG, hI, hrow, hfz⟩
            case round =>
              clear hB hC hG hI hrow hfz hown
              obtain ⟨k, rfl, hk, hB, hC, hG, hI, hrow, hfz⟩ := hrel
              have hQg := hG.at
              unfold frBox at hQg
              have hFg := hG.frozen
              have hQc := hC.at
              unfold confBox at hQc
              have hQi := hI.at
              by_cases hlt : k < F.E.length
              · have d3 : decide (k < F.E.length) = true := by simpa using hlt
                have d3' : decide ((k : Int) < (F.E.length : Int)) = true := by simp; omega
                have hk2 : k < (mixE ⟨2, v⟩ F.E k).length := by rw [HL.out k hk]; exact hlt
                obtain ⟨b1, o1, rfl, hb1, hc1, hc2, _, _⟩ := hrow.get k hk2
                have zR := hfz b1 o1 rfl (fun h => by rw [h] at hlt; simp at hlt)
                have hr2 := hrow.setAt k hk2 ⟨2, v⟩ ⟨by show (-9223372036854775808 : Int) ≤ 2; omega, by show (2 : Int) ≤ 9223372036854775807; omega⟩ ⟨by show (-9223372036854775808 : Int) ≤ v; omega, by show v ≤ 9223372036854775807; omega⟩
                rw [HSet.out k hlt] at hr2
                have n1 : b1 ≠ g := hneF _ rfl
                have n2 : b1 ≠ vb := hvr _ rfl
                have n3 : w.heap.size < b1 := hnew _ rfl
                generalize (mixE ⟨2, v⟩ F.E k)[k] = t0 at *
                clear hk2 hrow
                have hll : (k : Int) < (F.E.length : Int) := by omega
                go_wp2
                go_roundw
                case rel =>
                  refine ⟨k + 1, by go_num, by omega, ?_, ?_, ?_, ?_, hr2, ?_⟩
                  · exact (hB.setCell (p := ⟨b1, o1 + k * 2, none⟩) (by show w.heap.size ≤ b1; omega) _).setCell (p := ⟨b1, o1 + k * 2 + 1, none⟩) (by show w.heap.size ≤ b1; omega) _
                  · exact (hC.far (p := ⟨b1, o1 + k * 2, none⟩) (by show w.heap.size ≠ b1; omega) _).far (p := ⟨b1, o1 + k * 2 + 1, none⟩) (by show w.heap.size ≠ b1; omega) _
                  · exact (hG.far (p := ⟨b1, o1 + k * 2, none⟩) (fun h => n1 h.symm) _).far (p := ⟨b1, o1 + k * 2 + 1, none⟩) (fun h => n1 h.symm) _
                  · exact (hI.far (p := ⟨b1, o1 + k * 2, none⟩) (fun h => n2 h.symm) _).far (p := ⟨b1, o1 + k * 2 + 1, none⟩) (fun h => n2 h.symm) _
                  · intro b2 o2 h2 h3 i
                    rw [World.frozen?_setCell, World.frozen?_setCell]
                    exact hfz b2 o2 h2 h3 i
                case measure => simp [intOf]; omega
              · have d3 : decide (k < F.E.length) = false := by simpa using hlt
                have d3' : decide ((k : Int) < (F.E.length : Int)) = false := by simp; omega
                have hkk : k = F.E.length := by omega
                have HA := Lib.hid (mixE_all ⟨2, v⟩ F.E)
                rw [hkk, HA.out] at hrow
                clear HA hkk
                go_wp2_with fail
                refine (HT1.out _ av cv hrow).mono ?_
                rintro e wh ⟨rfl, hb1⟩
                go_wp2
                go_ret
                exact ⟨ret_str (by rw [HE1.out]), hB.trans (hb1.mono hB.size)⟩

end Go.Proofs.YtbghpkdkfbpmeaaGreat
