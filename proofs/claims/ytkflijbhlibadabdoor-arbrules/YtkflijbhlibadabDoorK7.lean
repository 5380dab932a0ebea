/-
  Contracts of package frame, eighth part: Read.
-/
import Derived.Test.YtkflijbhlibadabDoorK6
import Derived.Test.YtkflijbhlibadabDoorK1
import Derived.StillTail
namespace Go.Proofs.YtkflijbhlibadabDoor
open Go.RowKit Plait
set_option maxRecDepth 100000
set_option linter.unusedVariables false

theorem open_all (l b : List UInt8) (h : openP l = (b, 0)) : allBits b := by
  unfold openP at h
  split at h
  · simp at h
  · rename_i hw
    split at h
    · simp at h
    · split at h
      · have := (Prod.ext_iff.1 h).1
        simp only at this
        rw [← this]
        exact whole_take l _ (by simpa using hw) (by omega)
      · simp at h

/-- Read's last step: the frame is laid into the result's place. -/
theorem fread_end (f : Fr) (er : Int) (w wr : World) (av : Option Addr) (cv : Nat) (hB : Below w.heap.size w wr) (k2 : Blk wr (w.heap.size + 1) 29 zeroBox)
    (hown : OwnT (w.heap.size + 2) wr (.slice av f.E.length cv) f.E) (hl : f.E.length ≤ 1000000) (hz : ∀ t ∈ f.E, inI t.K ∧ inI t.V) {p : Fr × Int} (hp : p = (f, er)) {a : Act}
    (h4 : a.tmps[4]? = some (.pointer (some ⟨w.heap.size + 1, 0, none⟩)) := by rfl) (h5 : a.tmps[5]? = some (.int .i64 er) := by rfl) (hd : a.defers = [] := by rfl) :
    bodyPost Tryd.prog Tryd.f33 (ReadRet p w) Exit.ret a
      ((((((wr.setCell ⟨w.heap.size + 1, 0, none⟩ (.int .i64 f.K)).setCell ⟨w.heap.size + 1, 1, none⟩ (.int .i64 f.R)).setCell ⟨w.heap.size + 1, 2, none⟩ (.int .i64 f.S)).setCell
        ⟨w.heap.size + 1, 3, none⟩ (.int .i64 f.P.K)).setCell ⟨w.heap.size + 1, 4, none⟩ (.int .i64 f.P.V)).setCell ⟨w.heap.size + 1, 5, none⟩ (.slice av f.E.length cv)) := by
  subst hp
  unfold zeroBox at k2
  have kk := ((((((k2.set 0 (.int .i64 f.K)).set 1 (.int .i64 f.R)).set 2 (.int .i64 f.S)).set 3 (.int .i64 f.P.K)).set 4 (.int .i64 f.P.V)).set 5 (.slice av f.E.length cv))
  have hb2 := (((((hB.setCell (p := ⟨w.heap.size + 1, 0, none⟩) (by simp) (.int .i64 f.K)).setCell (p := ⟨w.heap.size + 1, 1, none⟩) (by simp) (.int .i64 f.R)).setCell (p := ⟨w.heap.size + 1, 2, none⟩) (by simp) (.int .i64 f.S)).setCell
    (p := ⟨w.heap.size + 1, 3, none⟩) (by simp) (.int .i64 f.P.K)).setCell (p := ⟨w.heap.size + 1, 4, none⟩) (by simp) (.int .i64 f.P.V)).setCell (p := ⟨w.heap.size + 1, 5, none⟩) (by simp) (.slice av f.E.length cv)
  have ho := (((((hown.far ⟨w.heap.size + 1, 0, none⟩ (.int .i64 f.K) (by simp)).far ⟨w.heap.size + 1, 1, none⟩ (.int .i64 f.R) (by simp)).far ⟨w.heap.size + 1, 2, none⟩ (.int .i64 f.S) (by simp)).far
    ⟨w.heap.size + 1, 3, none⟩ (.int .i64 f.P.K) (by simp)).far ⟨w.heap.size + 1, 4, none⟩ (.int .i64 f.P.V) (by simp)).far ⟨w.heap.size + 1, 5, none⟩ (.slice av f.E.length cv) (by simp)
  generalize (((((wr.setCell _ _).setCell _ _).setCell _ _).setCell _ _).setCell _ _).setCell _ _ = W at *
  have q := kk.at
  simp at q
  refine bodyPost_ret (v := .tuple #[.agg #[.int .i64 f.K, .int .i64 f.R, .int .i64 f.S, .int .i64 f.P.K, .int .i64 f.P.V, .slice av f.E.length cv], .int .i64 er]) (by simp [results, Tryd.results33, go_sem, h4, h5, q]) hd ⟨av, cv, rfl, ho.row (by omega) hz, ?_, hb2⟩
  intro x hx
  have := (ho.lt x.block (by rw [hx]; rfl)).1
  omega

/-- Read's frame, boxed. -/
theorem fr_boxed {wm : World} {F : Fr} {av : Option Addr} {cv : Nat} : Blk (wm.alloc (.cells #[.int .i64 F.K, .int .i64 F.R, .int .i64 F.S, .int .i64 F.P.K, .int .i64 F.P.V, .slice av F.E.length cv] 29)) wm.heap.size 29 (frBox F av cv) := Blk.new wm _ _

set_option maxHeartbeats 6400000 in
theorem fRead_any (c : Cf) (ca : Option Addr) (cc : Nat) (l : List UInt8) (w : World) (hc : c.Ok) (hs : l.length ≤ 1048576) :
    Calls Tryd.prog 33 #[.agg #[.int .i64 c.N, .int .i64 c.Pi, .int .i64 c.E, .int .i64 c.G, .int .i64 c.F, .slice ca c.P.length cc], .string ⟨l.toArray⟩] w (ReadRet (readF c l) w) := by
  obtain ⟨b, er, hbe⟩ : ∃ b e, openP l = (b, e) := ⟨_, _, rfl⟩
  have hbl := open_len l
  rw [hbe] at hbl
  simp only at hbl
  have HO := Lib.hid (fun W => copen_any l W hs)
  have HQ := Lib.hid (show openR l = .tuple #[.string ⟨b.toArray⟩, .int .i64 er] by unfold openR; rw [hbe])
  rw [HQ.out] at HO
  have hB0 : Below w.heap.size w ((w.alloc (.cells #[.int .i64 c.N, .int .i64 c.Pi, .int .i64 c.E, .int .i64 c.G, .int .i64 c.F, .slice ca c.P.length cc] 24)).alloc (.cells zeroBox 29)) := (alloc_below w _).alloc (by simp) _
  have hC0 : Blk ((w.alloc (.cells #[.int .i64 c.N, .int .i64 c.Pi, .int .i64 c.E, .int .i64 c.G, .int .i64 c.F, .slice ca c.P.length cc] 24)).alloc (.cells zeroBox 29)) w.heap.size 24 (confBox c ca cc) := (Blk.new w _ _).alloc _
  have hZ0 : Blk ((w.alloc (.cells #[.int .i64 c.N, .int .i64 c.Pi, .int .i64 c.E, .int .i64 c.G, .int .i64 c.F, .slice ca c.P.length cc] 24)).alloc (.cells zeroBox 29)) (w.heap.size + 1) 29 zeroBox := Blk.newAt _ _ (by simp)
  by_cases he : er = 0
  · subst he
    have HR := Lib.hid (readF_ok c l b hbe)
    have HA := Lib.hid (open_all l b hbe)
    clear hbe HQ
    by_cases h34 : b.length < 34
    · have HF := Lib.hid (show readF c l = (zeroF, 3) by rw [HR.out, readB_cut c b h34])
      have d1 : decide ((b.length : Int) < 34) = true := by simp; omega
      go_enter Tryd.func33, Tryd.ntmps33
      go_wp2_with fail
      refine (HO.out _).mono ?_
      rintro e wn ⟨rfl, hb⟩
      have hB := hB0.trans (hb.mono hB0.size)
      have hZ := hZ0.later hb
      have hQ := hZ.at
      have hF := hZ.frozen
      unfold zeroBox at hQ
      go_wp2
      exact fread_end zeroF 3 w wn none 0 hB hZ (OwnT.nil _ _) (by decide) (fun t ht => by simp [zeroF] at ht) HF.out
    · have h34' : (34 : Int) ≤ (b.length : Int) := by omega
      have d1 : decide ((b.length : Int) < 34) = false := by simp; omega
      go_enter Tryd.func33, Tryd.ntmps33
      go_wp2_with fail
      refine (HO.out _).mono ?_
      rintro e wn ⟨rfl, hb⟩
      have hH : HeldR c ca cc w wn := HeldR.next ⟨hB0, hC0, hZ0⟩ hb
      clear hb hB0 hC0 hZ0 HO
      go_wp2_with fail
      refine (freadNumbers_any b _ HA.out (by omega)).mono ?_
      rintro e wm ⟨m, hm1, hm2, v, rfl, hown, hb⟩
      replace hH := hH.next hb
      clear hb
      have hm5 := (cnt_of b.length m (by omega) hm1 hm2).1
      have hmg := off_ge m
      have HN := Lib.hid (frN_nums b HA.out m (by omega) hm1 hm2)
      have hin := numsOf_in b m
      have hll : (numsOf b m).length = m := numsOf_len b m
      obtain ⟨g, cv, cur, rfl, hg, hgb, hcap, hmax, _⟩ : ∃ g cap cur, v = .slice (some ⟨g, 0, none⟩) (numsOf b m).length cap ∧ wn.heap.size ≤ g ∧ wm.heap[g]? = some (.cells cur 3 (0, 0)) ∧ (numsOf b m).length ≤ cap ∧ cap ≤ maxLen ∧ True := by
        rcases hown.2 with ⟨_, h0⟩ | ⟨g, cap, cur, h1, h2, h3, h4, h5, _⟩
        · omega
        · exact ⟨g, cap, cur, h1, h2, h3, h4, h5, trivial⟩
      have hrow := hown.row (by omega) hin
      have h5 : 5 ≤ (numsOf b m).length := by omega
      have h6 : (numsOf b m).length ≤ 600000 := by omega
      have HFo := Lib.hid (fframeOf_any g (numsOf b m) cv wm hrow h5 hcap h6 hmax)
      rw [HN.out] at HFo
      have hsz2 : w.heap.size + 2 ≤ wm.heap.size := hH.2.2.lt
      clear hll hcap hmax hgb hg hown hrow hin h5 h6 hmg hm5 hm1 hm2 HN
      generalize (numsOf b m).length = nl at *
      obtain ⟨q, hq⟩ : ∃ q, (b.length - 34) / 10 = q := ⟨_, rfl⟩
      have hqb : q ≤ 110000 := by omega
      have HRl := Lib.hid (fun h2 => readB_long c b h34 h2)
      have HRc := Lib.hid (fun h2 e he h3 => readB_check c b h34 h2 e he h3)
      have HRo := Lib.hid (fun h2 he => readB_ok c b h34 h2 he)
      rw [hq] at HFo HRc HRo
      obtain ⟨F, hF⟩ : ∃ F, (frOf b).with (itsOf (b.drop 34) q) = F := ⟨_, rfl⟩
      have hFK : (frOf b).K = F.K := by rw [← hF]; rfl
      have hFS : (frOf b).S = F.S := by rw [← hF]; rfl
      have hFE : F.E = itsOf (b.drop 34) q := by rw [← hF]; rfl
      have hEl : F.E.length ≤ 110000 := by rw [hFE, itsOf_len]; omega
      have hEin : ∀ t ∈ F.E, inI t.K ∧ inI t.V := by rw [hFE]; exact itsOf_in _ _
      rw [hF] at HFo HRc HRo
      rw [hFK, hFS] at HRl HRc HRo
      clear hF hFK hFS hFE hq
      have he : 0 ≤ echoI c F.K F.S ∧ echoI c F.K F.S ≤ 15 := by
        have := hc.n6; have := hc.n12; have := hc.len
        unfold echoI slotsI
        split <;> omega
      obtain ⟨he0, he1⟩ := he
      go_wp2_with fail
      refine HFo.out.mono ?_
      rintro e wo ⟨av, cv2, rfl, hown, hb⟩
      replace hH := hH.next hb
      replace hown := hown.weak (show w.heap.size + 2 ≤ wm.heap.size + 1 by omega)
      clear hb HFo
      have hK : Blk (wo.alloc (.cells #[.int .i64 F.K, .int .i64 F.R, .int .i64 F.S, .int .i64 F.P.K, .int .i64 F.P.V, .slice av F.E.length cv2] 29)) wo.heap.size 29 (frBox F av cv2) := Blk.new wo _ _
      replace hH := hH.next (alloc_below wo (.cells #[.int .i64 F.K, .int .i64 F.R, .int .i64 F.S, .int .i64 F.P.K, .int .i64 F.P.V, .slice av F.E.length cv2] 29))
      replace hown := hown.later (alloc_below wo (.cells #[.int .i64 F.K, .int .i64 F.R, .int .i64 F.S, .int .i64 F.P.K, .int .i64 F.P.V, .slice av F.E.length cv2] 29))
      go_upto_region 7 with fail
      generalize wo.alloc (.cells #[.int .i64 F.K, .int .i64 F.R, .int .i64 F.S, .int .i64 F.P.K, .int .i64 F.P.V, .slice av F.E.length cv2] 29) = wp at *
      generalize wo.heap.size = G at *
      have q1 := hH.2.1.at
      unfold confBox at q1
      have q3 := hK.at
      unfold frBox at q3
      go_wp2_with fail
      refine (fechoes_any c ca cc F av cv2 _ hc).mono ?_
      rintro e wq ⟨rfl, hb⟩
      replace hH := hH.next hb
      replace hK := hK.later hb
      replace hown := hown.later hb
      clear hb q1 q3
      generalize echoI c F.K F.S = en at *
      by_cases hL : (b.length : Int) - 34 = 10 * en
      · have d2 : ((b.length : Int) != 34 + 10 * en) = false := by simp; omega
        replace HRc := Lib.hid (HRc.out hL)
        replace HRo := Lib.hid (HRo.out hL)
        clear hL HRl
        have q1 := hH.2.1.at
        unfold confBox at q1
        have q3 := hK.at
        unfold frBox at q3
        have hrT := hown.row (by omega) hEin
        have HCk := Lib.hid (fCheck_any c ca cc F av cv2 wq hc hrT)
        cases hce : (checkF c F == 0)
        · have hce' : checkF c F ≠ 0 := by simpa using hce
          have HF := Lib.hid (HR.out.trans (HRc.out _ rfl hce'))
          have d3 : (checkF c F != 0) = true := by rw [bne, hce]; rfl
          clear hce hce' HRc HRo HR
          generalize checkF c F = er at *
          go_wp2_with fail
          refine HCk.out.mono ?_
          rintro e wr ⟨rfl, hb⟩
          replace hH := hH.next hb
          have hQ := hH.2.2.at
          have hfz := hH.2.2.frozen
          unfold zeroBox at hQ
          clear q1 q3
          go_wp2
          exact fread_end zeroF er w wr none 0 hH.1 hH.2.2 (OwnT.nil _ _) (by decide) (fun t ht => by simp [zeroF] at ht) HF.out
        · have hce' : checkF c F = 0 := by simpa using hce
          have HF := Lib.hid (HR.out.trans (HRo.out hce'))
          rw [hce'] at HCk
          clear hce hce' HRc HRo HR
          go_wp2_with fail
          refine HCk.out.mono ?_
          rintro e wr ⟨rfl, hb⟩
          replace hH := hH.next hb
          replace hK := hK.later hb
          replace hown := hown.later hb
          have hQ := hH.2.2.at
          have hfz := hH.2.2.frozen
          unfold zeroBox at hQ
          clear q1 q3
          have q3 := hK.at
          unfold frBox at q3
          go_wp2
          exact fread_end F 0 w wr av cv2 hH.1 hH.2.2 hown (by omega) hEin HF.out
      · have d2 : ((b.length : Int) != 34 + 10 * en) = true := by simp; omega
        have HF := Lib.hid (HR.out.trans (HRl.out hL))
        have hQ := hH.2.2.at
        have hfz := hH.2.2.frozen
        unfold zeroBox at hQ
        go_wp2
        exact fread_end zeroF 2 w wq none 0 hH.1 hH.2.2 (OwnT.nil _ _) (by decide) (fun t ht => by simp [zeroF] at ht) HF.out
  · have HF := Lib.hid (readF_err c l b er hbe he)
    have d1 : (er != 0) = true := by simpa using he
    clear he hbe HQ
    go_enter Tryd.func33, Tryd.ntmps33
    go_wp2_with fail
    refine (HO.out _).mono ?_
    rintro e wn ⟨rfl, hb⟩
    have hB := hB0.trans (hb.mono hB0.size)
    have hZ := hZ0.later hb
    have hQ := hZ.at
    have hF := hZ.frozen
    unfold zeroBox at hQ
    go_wp2
    exact fread_end zeroF er w wn none 0 hB hZ (OwnT.nil _ _) (by decide) (fun t ht => by simp [zeroF] at ht) HF.out

end Go.Proofs.YtkflijbhlibadabDoor
/-
  Contracts of package frame, ninth part: Same.
-/
namespace Go.Proofs.YtkflijbhlibadabDoor
open Go.RowKit Plait
set_option maxRecDepth 100000
set_option linter.unusedVariables false

end Go.Proofs.YtkflijbhlibadabDoor
/-
  Contracts of the third laws' own helpers: within, Make.
-/
namespace Go.Proofs.YtkflijbhlibadabDoor
open Go.RowKit Plait
set_option maxRecDepth 100000
set_option linter.unusedVariables false

theorem within3_any (a n : Int) (w : World) (hn : 0 < n) (hn2 : n ≤ 1099511627776) :
    Calls Tryd.prog 24 #[.int .i64 a, .int .i64 n] w fun e w' => e = .returned (.int .i64 (a % n)) ∧ w = w' := by
  have b1 : 0 ≤ a % n := Int.emod_nonneg _ (by omega)
  have b2 : a % n < n := Int.emod_lt_of_pos _ hn
  by_cases h0 : 0 ≤ a
  · go_enter Tryd.func24, Tryd.ntmps24
    go_wp2
    go_ret
    exact ⟨rfl, rfl⟩
  · have h1 : a.tmod n = -((-a) % n) := by
      rw [show a = -(-a) by omega, Int.neg_tmod, Int.tmod_eq_emod_of_nonneg (by omega)]; simp
    have c1 : 0 ≤ (-a) % n := Int.emod_nonneg _ (by omega)
    have c2 : (-a) % n < n := Int.emod_lt_of_pos _ hn
    by_cases hz : (-a) % n = 0
    · have h2 : a.tmod n = 0 := by rw [h1, hz]; rfl
      have HF := Lib.hid (show (0 : Int) = a % n by
        have : n ∣ -a := Int.dvd_of_emod_eq_zero hz
        exact (Int.emod_eq_zero_of_dvd (Int.dvd_neg.1 this)).symm)
      clear h1 hz c1 c2 b1 b2
      go_enter Tryd.func24, Tryd.ntmps24
      go_wp2
      go_ret
      exact ⟨ret_int HF.out, rfl⟩
    · obtain ⟨r, hr⟩ : ∃ r, r = (-a) % n := ⟨_, rfl⟩
      rw [← hr] at h1 c1 c2 hz
      have HF := Lib.hid (show -r + n = a % n by
        have e := Int.emod_add_mul_ediv (-a) n
        rw [← hr] at e
        have e2 : a = (-r + n) + n * (-((-a) / n) - 1) := by rw [Int.mul_sub, Int.mul_neg]; omega
        rw [e2, Int.add_mul_emod_self_left]
        exact (Int.emod_eq_of_lt (by omega) (by omega)).symm)
      clear hr b1 b2
      go_enter Tryd.func24, Tryd.ntmps24
      go_wp2
      go_ret
      exact ⟨ret_int HF.out, rfl⟩

/-- What a call answers that makes a network. -/
def ConfRet (c : Cf) (w : World) (e : Ending) (w' : World) : Prop :=
  ∃ (a : Option Addr) (cap : Nat), e = .returned (.agg #[.int .i64 c.N, .int .i64 c.Pi, .int .i64 c.E, .int .i64 c.G, .int .i64 c.F, .slice a c.P.length cap]) ∧ Row w' a c.P ∧ (∀ x, a = some x → w.heap.size ≤ x.block) ∧ Below w.heap.size w w'

/-- The same, and that what it holds has room. -/
def ConfRet2 (c : Cf) (w : World) (e : Ending) (w' : World) : Prop :=
  ∃ (a : Option Addr) (cap : Nat), e = .returned (.agg #[.int .i64 c.N, .int .i64 c.Pi, .int .i64 c.E, .int .i64 c.G, .int .i64 c.F, .slice a c.P.length cap]) ∧ Row w' a c.P ∧ (∀ x, a = some x → w.heap.size ≤ x.block) ∧ c.P.length ≤ cap ∧ Below w.heap.size w w'
theorem OwnI.room {base : Nat} {w : World} {a : Option Addr} {n cap : Nat} {zs : List Int} (h : OwnI base w (.slice a n cap) zs) : zs.length ≤ cap := by
  rcases h.2 with ⟨hv, h0⟩ | ⟨g, cap', cur, hv, _, _, hcap, _⟩
  · omega
  · injection hv with _ _ e
    rw [e]
    exact hcap

/-- Where Make's variable g stands: h is the heap's size at the start. -/
def MakeG (c : Cf) (a : Option Addr) (cap : Nat) (w : World) (pi f : Int) (wx : World) : Prop :=
  Below w.heap.size w wx ∧ Blk wx w.heap.size 24 (confBox c a cap) ∧ Blk wx (w.heap.size + 1) 24 #[.int .i64 0, .int .i64 0, .int .i64 0, .int .i64 0, .int .i64 0, .slice none 0 0] ∧
    Blk wx (w.heap.size + 2) 24 #[.int .i64 (6 + c.N % 7), .int .i64 pi, .int .i64 (c.E % 21), .int .i64 (c.G % 21), .int .i64 f, .slice none 0 0]

/-- The loop over the pairs. -/
def MakeL (c : Cf) (a : Option Addr) (cap : Nat) (w : World) (i : Value) (wx : World) : Prop :=
  ∃ (k : Nat) (v : Value), k ≤ c.P.length ∧ k ≤ 3 ∧ i = .int .i64 k ∧ Below w.heap.size w wx ∧ Blk wx w.heap.size 24 (confBox c a cap) ∧ Blk wx (w.heap.size + 1) 24 #[.int .i64 0, .int .i64 0, .int .i64 0, .int .i64 0, .int .i64 0, .slice none 0 0] ∧
    Blk wx (w.heap.size + 2) 24 #[.int .i64 (6 + c.N % 7), .int .i64 (makeC c).Pi, .int .i64 (c.E % 21), .int .i64 (c.G % 21), .int .i64 (makeC c).F, v] ∧ OwnI (w.heap.size + 3) wx v ((makeC c).P.take k)

theorem makeP_get (c : Cf) (k : Nat) (h : k < c.P.length) (h3 : k < 3) : ∃ hk : k < (makeC c).P.length, (makeC c).P[k] = c.P[k] % (6 + c.N % 7 + 1) - 1 := by
  have hk : k < (makeC c).P.length := by simp [makeC]; omega
  exact ⟨hk, by simp [makeC]⟩

theorem makeP_len (c : Cf) : (makeC c).P.length = min 3 c.P.length := by simp [makeC]

/-- Make's last step: g is laid into the result's place. -/
theorem make_end (c : Cf) (w wr : World) (av : Option Addr) (cv : Nat) (hB : Below w.heap.size w wr)
    (k2 : Blk wr (w.heap.size + 1) 24 #[.int .i64 0, .int .i64 0, .int .i64 0, .int .i64 0, .int .i64 0, .slice none 0 0]) (hown : OwnI (w.heap.size + 3) wr (.slice av (makeC c).P.length cv) (makeC c).P) {a : Act}
    (h2 : a.tmps[2]? = some (.pointer (some ⟨w.heap.size + 1, 0, none⟩)) := by rfl) (hd : a.defers = [] := by rfl) :
    bodyPost Tryd.prog Tryd.f10 (ConfRet2 (makeC c) w) Exit.ret a
      ((((((wr.setCell ⟨w.heap.size + 1, 0, none⟩ (.int .i64 (6 + c.N % 7))).setCell ⟨w.heap.size + 1, 1, none⟩ (.int .i64 (makeC c).Pi)).setCell ⟨w.heap.size + 1, 2, none⟩ (.int .i64 (c.E % 21))).setCell
        ⟨w.heap.size + 1, 3, none⟩ (.int .i64 (c.G % 21))).setCell ⟨w.heap.size + 1, 4, none⟩ (.int .i64 (makeC c).F)).setCell ⟨w.heap.size + 1, 5, none⟩ (.slice av (makeC c).P.length cv)) := by
  have kk := ((((((k2.set 0 (.int .i64 (6 + c.N % 7))).set 1 (.int .i64 (makeC c).Pi)).set 2 (.int .i64 (c.E % 21))).set 3 (.int .i64 (c.G % 21))).set 4 (.int .i64 (makeC c).F)).set 5 (.slice av (makeC c).P.length cv))
  have hb2 := (((((hB.setCell (p := ⟨w.heap.size + 1, 0, none⟩) (by simp) (.int .i64 (6 + c.N % 7))).setCell (p := ⟨w.heap.size + 1, 1, none⟩) (by simp) (.int .i64 (makeC c).Pi)).setCell (p := ⟨w.heap.size + 1, 2, none⟩) (by simp) (.int .i64 (c.E % 21))).setCell
    (p := ⟨w.heap.size + 1, 3, none⟩) (by simp) (.int .i64 (c.G % 21))).setCell (p := ⟨w.heap.size + 1, 4, none⟩) (by simp) (.int .i64 (makeC c).F)).setCell (p := ⟨w.heap.size + 1, 5, none⟩) (by simp) (.slice av (makeC c).P.length cv)
  have ho := (((((hown.far ⟨w.heap.size + 1, 0, none⟩ (.int .i64 (6 + c.N % 7)) (by simp)).far ⟨w.heap.size + 1, 1, none⟩ (.int .i64 (makeC c).Pi) (by simp)).far ⟨w.heap.size + 1, 2, none⟩ (.int .i64 (c.E % 21)) (by simp)).far
    ⟨w.heap.size + 1, 3, none⟩ (.int .i64 (c.G % 21)) (by simp)).far ⟨w.heap.size + 1, 4, none⟩ (.int .i64 (makeC c).F) (by simp)).far ⟨w.heap.size + 1, 5, none⟩ (.slice av (makeC c).P.length cv) (by simp)
  generalize (((((wr.setCell _ _).setCell _ _).setCell _ _).setCell _ _).setCell _ _).setCell _ _ = W at *
  have q := kk.at
  simp at q
  refine bodyPost_ret (v := .agg #[.int .i64 (makeC c).N, .int .i64 (makeC c).Pi, .int .i64 (makeC c).E, .int .i64 (makeC c).G, .int .i64 (makeC c).F, .slice av (makeC c).P.length cv]) (by simp [results, Tryd.results10, go_sem, h2, q, makeC]) hd ⟨av, cv, rfl, ho.row ?_ ?_, ?_, ho.room, hb2⟩
  · have := (makeC_ok c).len
    omega
  · intro z hz
    have := (makeC_ok c).all z hz
    have := (makeC_ok c).n12
    omega
  · intro x hx
    have := (ho.lt x.block (by rw [hx]; rfl)).1
    omega

set_option maxHeartbeats 1600000 in
theorem make_any2 (c : Cf) (a : Option Addr) (cap : Nat) (w : World) (hrow : Row w a c.P) :
    Calls Tryd.prog 10 #[.agg #[.int .i64 c.N, .int .i64 c.Pi, .int .i64 c.E, .int .i64 c.G, .int .i64 c.F, .slice a c.P.length cap]] w (ConfRet2 (makeC c) w) := by
  have HF := Lib.hid (show (makeC c).F = if c.F % 3 = 0 then 65535 - c.F % 40 else c.F % 65536 from rfl)
  have b3 : 0 ≤ c.F % 3 := by omega
  have b40 : 0 ≤ c.F % 40 := by omega
  have b40' : c.F % 40 < 40 := by omega
  go_enter Tryd.func10, Tryd.ntmps10
  go_upto_region 1 with fail
  go_cut [3] (fun s3 wx => s3 = .pointer (some ⟨w.heap.size + 2, 0, none⟩) ∧ MakeG c a cap w 0 (c.F % 65536) wx)
  case first =>
    have w6 : IntKind.i64.wrap (6 + c.N % 7) = 6 + c.N % 7 := wrap_in _ (by omega) (by omega)
    go_region_held3 (fun W => W.cell? ⟨w.heap.size, 0, none⟩ = some (.int .i64 c.N) ∧ W.cell? ⟨w.heap.size, 2, none⟩ = some (.int .i64 c.E) ∧ W.cell? ⟨w.heap.size, 3, none⟩ = some (.int .i64 c.G) ∧ W.cell? ⟨w.heap.size, 4, none⟩ = some (.int .i64 c.F)) (go_keep)
      (first | (go_at_call 24; refine (within3_any _ _ _ ?_ ?_).mono ?_; omega; omega; rintro e wl ⟨rfl, rfl⟩))
    all_goals go_wp2_with fail
    all_goals go_meet
    all_goals
      refine ⟨rfl, ?_⟩
      exact ⟨(((alloc_below w _).alloc (by simp) _).alloc (by simp; omega) _).drew, ((Blk.new w _ _).alloc _).alloc _, (Blk.newAt _ _ (by simp)).alloc _, Blk.newAt _ _ (by simp)⟩
  case rest =>
    obtain ⟨rfl, hB, k1, k2, k3⟩ := hcut
    have q1 := k1.at
    unfold confBox at q1
    have q3 := k3.at
    have f3 := k3.frozen
    go_upto_if 22 with (go_at_call 24; refine (within3_any c.F 3 _ (by omega) (by omega)).mono ?_; rintro e wl ⟨rfl, rfl⟩)
    go_cut [] (fun wx => MakeG c a cap w 0 (makeC c).F wx)
    case first =>
      by_cases h3 : c.F % 3 = 0
      · have d3 : (c.F % 3 == 0) = true := by simpa using h3
        rw [if_pos h3] at HF
        clear h3
        go_wp2_with (go_at_call 24; refine (within3_any c.F 40 _ (by omega) (by omega)).mono ?_; rintro e wl ⟨rfl, rfl⟩)
        go_meet
        have k3' := k3.set 4 (.int .i64 (65535 - c.F % 40))
        exact ⟨hB.setCell (by simp) _, k1.far (by simp) _, k2.far (by simp) _, by rw [HF.out]; exact k3'⟩
      · have d3 : (c.F % 3 == 0) = false := by simpa using h3
        rw [if_neg h3] at HF
        clear h3
        go_wp2_with fail
        go_meet
        exact ⟨hB, k1, k2, by rw [HF.out]; exact k3⟩
    case rest =>
      clear hB k1 k2 k3 q1 q3 f3
      obtain ⟨hB, k1, k2, k3⟩ := hcut
      have q1 := k1.at
      unfold confBox at q1
      have q3 := k3.at
      have f3 := k3.frozen
      go_upto_region 4 with fail
      go_cut [] (fun wx => MakeG c a cap w (makeC c).Pi (makeC c).F wx)
      case first =>
        have z1 : IntKind.i64.wrap (c.E % 21 + c.G % 21) = c.E % 21 + c.G % 21 := wrap_in _ (by omega) (by omega)
        have z2 : IntKind.i64.wrap (c.E % 21 + c.G % 21 + 1) = c.E % 21 + c.G % 21 + 1 := wrap_in _ (by omega) (by omega)
        have z3 : IntKind.i64.wrap (4 * (c.E % 21 + c.G % 21 + 1)) = 4 * (c.E % 21 + c.G % 21 + 1) := wrap_in _ (by omega) (by omega)
        have z4 : IntKind.i64.wrap (4 * (c.E % 21 + c.G % 21 + 1) + c.Pi % 100) = 4 * (c.E % 21 + c.G % 21 + 1) + c.Pi % 100 := wrap_in _ (by omega) (by omega)
        have HP := Lib.hid (show (makeC c).Pi = 4 * (c.E % 21 + c.G % 21 + 1) + c.Pi % 100 from rfl)
        have t1 := q1 1
        have t2 := q3 2
        have t3 := q3 3
        simp at t1 t2 t3
        go_region_held3 (fun W => W.cell? ⟨w.heap.size, 1, none⟩ = some (.int .i64 c.Pi) ∧ W.cell? ⟨w.heap.size + 2, 2, none⟩ = some (.int .i64 (c.E % 21)) ∧ W.cell? ⟨w.heap.size + 2, 3, none⟩ = some (.int .i64 (c.G % 21))) (first | (go_keep; done) | exact ⟨keep_set t1 (by simp), keep_set t2 (by simp), keep_set t3 (by simp)⟩)
          (first | (go_at_call 24; refine (within3_any _ _ _ ?_ ?_).mono ?_; omega; omega; rintro e wl ⟨rfl, rfl⟩))
        all_goals go_wp2_with fail
        all_goals go_meet
        all_goals
          have k3' := k3.set 1 (.int .i64 (4 * (c.E % 21 + c.G % 21 + 1) + c.Pi % 100))
          exact ⟨(hB.setCell (by simp) _).drew, k1.far (by simp) _, k2.far (by simp) _, by rw [HP.out]; exact k3'⟩
      case rest =>
        clear hB k1 k2 k3 q1 q3 f3
        obtain ⟨hB, k1, k2, k3⟩ := hcut
        go_wp2
        go_loopw [4] (fun i w' => MakeL c a cap w i w') (fun i _ => 3 - (intOf i).toNat)
        case atStart => exact ⟨0, _, Nat.zero_le _, by omega, rfl, hB, k1, k2, k3, OwnI.nil _ _⟩
        case round =>
          clear hB k1 k2 k3
          obtain ⟨k, v, hk, hk3, rfl, hB, k1, k2, k3, hown⟩ := hrel
          have q1 := k1.at
          unfold confBox at q1
          have q3 := k3.at
          have f3 := k3.frozen
          by_cases hlt : k < c.P.length
          · have d1 : decide (k < c.P.length) = true := by simpa using hlt
            by_cases h3 : k < 3
            · have d2 : decide ((k : Int) < 3) = true := by simp; omega
              obtain ⟨b, off, rfl, hbl, hcell, hz1, hz2⟩ := (hrow.later hB).get k hlt
              have hbw : b < w.heap.size := by
                obtain ⟨b', off', e, hlt', _⟩ := hrow.get k hlt
                simp at e
                omega
              obtain ⟨hkl, hkg⟩ := makeP_get c k hlt h3
              have HT := Lib.hid (show (makeC c).P.take (k + 1) = (makeC c).P.take k ++ [c.P[k] % (6 + c.N % 7 + 1) - 1] by rw [List.take_succ_eq_append_getElem hkl, hkg])
              clear hkg
              have hL : ((makeC c).P.take k).length ≤ 3 := by rw [List.length_take]; omega
              generalize c.P[k] = z at *
              generalize (makeC c).P.take k = PL at *
              obtain ⟨av, cv, rfl⟩ := hown.form
              have g0 : (0 : Int) ≤ (k : Int) := by omega
              have g1 : (k : Int) < (c.P.length : Int) := by omega
              have hol := hown.lt
              have hz := k3.lt
              have m0 : 0 ≤ z % (6 + c.N % 7 + 1) := Int.emod_nonneg _ (by omega)
              have m1 : z % (6 + c.N % 7 + 1) < 6 + c.N % 7 + 1 := Int.emod_lt_of_pos _ (by omega)
              have z1 : IntKind.i64.wrap (6 + c.N % 7 + 1) = 6 + c.N % 7 + 1 := wrap_in _ (by omega) (by omega)
              have z2 : IntKind.i64.wrap (z % (6 + c.N % 7 + 1) - 1) = z % (6 + c.N % 7 + 1) - 1 := wrap_in _ (by omega) (by omega)
              have t1 := q1 5
              have t2 := q3 0
              simp at t1 t2
              go_wp2
              go_region_law (first
                | (refine step_app1 _ (by rfl) (.tmp 52) (.tmp 63) (by rfl) (w.heap.size + 3) (.slice av PL.length cv) PL (by simp [Act.eval]) (hown.later ((Below.refl _ _).drew.alloc (by simp) _)) wr.heap.size 1 (z % (6 + c.N % 7 + 1) - 1) (by simp [Act.eval]) (heap_alloc_new _ _) (by omega) (by simp; omega) ?_; intro g cap' w2 h1' h2' h3' h4'; have k3w := (Blk.alloc (w := wr.drew) k3 _).grown h2' (fun e => by have := (hol _ e.symm).1; omega); have q3w := k3w.at 5; have f3w := k3w.frozen 5)
                | (go_simp; go_at_call 24; refine (within3_any _ _ _ ?_ ?_).mono ?_; omega; omega; rintro e wl ⟨rfl, rfl⟩))
              all_goals
                go_wp2
                go_roundw
                case rel =>
                  refine ⟨k + 1, _, by omega, by omega, by go_num, ?_, ?_, ?_, k3w.set 5 _, ?_⟩
                  · exact (below_grown (hB.drew.alloc hB.drew.size _) (hB.drew.alloc hB.drew.size _).size h2' (fun g hg => by have := (hol g hg).1; omega)).setCell (by simp) _
                  · exact ((Blk.alloc (w := wr.drew) k1 _).grown h2' (fun e => by have := (hol _ e.symm).1; omega)).far (by simp) _
                  · exact ((Blk.alloc (w := wr.drew) k2 _).grown h2' (fun e => by have := (hol _ e.symm).1; omega)).far (by simp) _
                  · rw [HT.out]
                    exact h1'.far ⟨w.heap.size + 2, 5, none⟩ _ (by simp)
                case measure => simp [intOf]; omega
            · have d2 : decide ((k : Int) < 3) = false := by simp; omega
              have HL := Lib.hid (show (makeC c).P.take k = (makeC c).P from List.take_of_length_le (by rw [makeP_len]; omega))
              rw [HL.out] at hown
              obtain ⟨av, cv, rfl⟩ := hown.form
              have q2 := k2.at
              have f2 := k2.frozen
              go_wp2
              exact make_end c w wr av cv hB k2 hown
          · have d1 : decide (k < c.P.length) = false := by simpa using hlt
            have HL := Lib.hid (show (makeC c).P.take k = (makeC c).P from List.take_of_length_le (by rw [makeP_len]; omega))
            rw [HL.out] at hown
            obtain ⟨av, cv, rfl⟩ := hown.form
            have q2 := k2.at
            have f2 := k2.frozen
            go_wp2
            exact make_end c w wr av cv hB k2 hown

theorem make_any (c : Cf) (a : Option Addr) (cap : Nat) (w : World) (hrow : Row w a c.P) :
    Calls Tryd.prog 10 #[.agg #[.int .i64 c.N, .int .i64 c.Pi, .int .i64 c.E, .int .i64 c.G, .int .i64 c.F, .slice a c.P.length cap]] w (ConfRet (makeC c) w) := (make_any2 c a cap w hrow).mono fun e w' ⟨da, dc, h1, h2, h3, _, h4⟩ => ⟨da, dc, h1, h2, h3, h4⟩

end Go.Proofs.YtkflijbhlibadabDoor
/-
  plaitinglaw5's known; what all laws of frames use.
-/
namespace Go.Proofs.YtkflijbhlibadabDoor
open Go.RowKit Plait
set_option maxRecDepth 100000
set_option linter.unusedVariables false

theorem itemB_in {i : It} {b : Bool} (h : itemB i b = true) : (0 ≤ i.K ∧ i.K ≤ 2) ∧ 0 ≤ i.V ∧ i.V ≤ 255 := by
  unfold itemB at h
  split at h
  · simp at h; omega
  · split at h
    · simp at h; omega
    · split at h
      · simp at h; omega
      · simp at h

theorem ok_small {c : Cf} {f : Fr} (hc : c.Ok) (h : f.Ok c) : inI f.K ∧ inI f.R ∧ inI f.S ∧ inI f.P.K ∧ inI f.P.V ∧ f.E.length ≤ 15 := by
  obtain ⟨s0, s1, r0, r1, k1, k3, kp, p, pz, len, all⟩ := h
  have hs : slotsI c ≤ 15 := by have := hc.n12; have := hc.len; unfold slotsI; omega
  have hp := itemB_in p
  have he : echoI c f.K f.S ≤ 15 := by unfold echoI; split <;> omega
  unfold inI
  omega

theorem rText_ok (d : Cf) (da : Option Addr) (dc : Nat) (g : Fr) (ga : Option Addr) (gc : Nat) (w : World) (hok : d.Ok) (hokg : g.Ok d) (hE : RowT w ga g.E) :
    Calls Tryd.prog 14 #[.agg #[.int .i64 d.N, .int .i64 d.Pi, .int .i64 d.E, .int .i64 d.G, .int .i64 d.F, .slice da d.P.length dc], .agg #[.int .i64 g.K, .int .i64 g.R, .int .i64 g.S, .int .i64 g.P.K, .int .i64 g.P.V, .slice ga g.E.length gc]] w fun e w' => e = .returned (.string ⟨(textF g).toArray⟩) ∧ Below w.heap.size w w' := by
  obtain ⟨h1, h2, h3, h4, h5, h6⟩ := ok_small hok hokg
  exact rText_any d da dc g ga gc w hE (by omega)

theorem text_whole (g : Fr) : wholeB (textF g) = true := by
  unfold textF
  rw [wrapL_eq]
  exact whole_bits _ (wrapB_bits _ (frBits_all g))

/-- The chapter's example. -/
def c0 : Cf := ⟨6, 4, 0, 0, 0, []⟩
def f0 : Fr := ⟨1, 0, 0, ⟨0, 0⟩, []⟩
theorem c0_ok : c0.Ok where
  n6 := by decide
  n12 := by decide
  e0 := by decide
  e1 := by decide
  g0 := by decide
  g1 := by decide
  f0 := by decide
  f1 := by decide
  p0 := by decide
  p1 := by decide
  len := by decide
  all := by intro a ha; cases ha

end Go.Proofs.YtkflijbhlibadabDoor
/-
  What the laws hold on to while frames are read: the network's box.
-/
namespace Go.Proofs.YtkflijbhlibadabDoor
open Go.RowKit Plait
set_option maxRecDepth 100000
set_option linter.unusedVariables false

/-- The network d lies boxed at db; all that lay at the start is as it was. -/
def HeldD (d : Cf) (da : Option Addr) (dc db : Nat) (w W : World) : Prop := Below w.heap.size w W ∧ Blk W db 24 (confBox d da dc)

theorem HeldD.next {d : Cf} {da : Option Addr} {dc db : Nat} {w W W' : World} (h : HeldD d da dc db w W) (hb : Below W.heap.size W W') : HeldD d da dc db w W' := ⟨h.1.trans (hb.mono h.1.size), h.2.later hb⟩
theorem HeldD.drew {d : Cf} {da : Option Addr} {dc db : Nat} {w W : World} (h : HeldD d da dc db w W) : HeldD d da dc db w W.drew := h.next (Below.refl _ _).drew
theorem HeldD.alloc {d : Cf} {da : Option Addr} {dc db : Nat} {w W : World} (h : HeldD d da dc db w W) (o : Obj) : HeldD d da dc db w (W.alloc o) := h.next (alloc_below _ _)
theorem HeldD.set {d : Cf} {da : Option Addr} {dc db : Nat} {w W : World} (h : HeldD d da dc db w W) {g : Nat} (hg : w.heap.size ≤ g ∧ db < g) (k : Nat) (u : Value) : HeldD d da dc db w (W.setCell ⟨g, k, none⟩ u) :=
  ⟨h.1.setCell (by show w.heap.size ≤ g; omega) u, h.2.far (by show db ≠ g; omega) u⟩
theorem HeldD.set6 {d : Cf} {da : Option Addr} {dc db : Nat} {w W : World} (h : HeldD d da dc db w W) {g : Nat} (hg : w.heap.size ≤ g ∧ db < g) (u0 u1 u2 u3 u4 u5 : Value) :
    HeldD d da dc db w ((((((W.setCell ⟨g, 0, none⟩ u0).setCell ⟨g, 1, none⟩ u1).setCell ⟨g, 2, none⟩ u2).setCell ⟨g, 3, none⟩ u3).setCell ⟨g, 4, none⟩ u4).setCell ⟨g, 5, none⟩ u5) := (((((h.set hg 0 u0).set hg 1 u1).set hg 2 u2).set hg 3 u3).set hg 4 u4).set hg 5 u5
theorem HeldD.new {d : Cf} {da : Option Addr} {dc db : Nat} {w W : World} (h : HeldD d da dc db w W) : w.heap.size ≤ W.heap.size ∧ db < W.heap.size := ⟨h.1.size, h.2.lt⟩
theorem HeldD.cells {d : Cf} {da : Option Addr} {dc db : Nat} {w W : World} (h : HeldD d da dc db w W) : W.cell? ⟨db, 0, none⟩ = some (.int .i64 d.N) ∧ W.cell? ⟨db, 1, none⟩ = some (.int .i64 d.Pi) ∧ W.cell? ⟨db, 2, none⟩ = some (.int .i64 d.E) ∧ W.cell? ⟨db, 3, none⟩ = some (.int .i64 d.G) ∧ W.cell? ⟨db, 4, none⟩ = some (.int .i64 d.F) ∧ W.cell? ⟨db, 5, none⟩ = some (.slice da d.P.length dc) :=
  ⟨by rw [h.2.at]; rfl, by rw [h.2.at]; rfl, by rw [h.2.at]; rfl, by rw [h.2.at]; rfl, by rw [h.2.at]; rfl, by rw [h.2.at]; rfl⟩

/-- The frame f's box, too. -/
def HeldDF (d : Cf) (da : Option Addr) (dc db : Nat) (f : Fr) (fa : Option Addr) (fc : Nat) (w W : World) : Prop := HeldD d da dc db w W ∧ Blk W (w.heap.size + 1) 29 (frBox f fa fc)
theorem HeldDF.next {d : Cf} {da : Option Addr} {dc db : Nat} {f : Fr} {fa : Option Addr} {fc : Nat} {w W W' : World} (h : HeldDF d da dc db f fa fc w W) (hb : Below W.heap.size W W') : HeldDF d da dc db f fa fc w W' := ⟨h.1.next hb, h.2.later hb⟩
theorem HeldDF.cells {d : Cf} {da : Option Addr} {dc db : Nat} {f : Fr} {fa : Option Addr} {fc : Nat} {w W : World} (h : HeldDF d da dc db f fa fc w W) : W.cell? ⟨db, 0, none⟩ = some (.int .i64 d.N) ∧ W.cell? ⟨db, 1, none⟩ = some (.int .i64 d.Pi) ∧ W.cell? ⟨db, 2, none⟩ = some (.int .i64 d.E) ∧ W.cell? ⟨db, 3, none⟩ = some (.int .i64 d.G) ∧ W.cell? ⟨db, 4, none⟩ = some (.int .i64 d.F) ∧ W.cell? ⟨db, 5, none⟩ = some (.slice da d.P.length dc) ∧
    W.cell? ⟨w.heap.size + 1, 0, none⟩ = some (.int .i64 f.K) ∧ W.cell? ⟨w.heap.size + 1, 1, none⟩ = some (.int .i64 f.R) ∧ W.cell? ⟨w.heap.size + 1, 2, none⟩ = some (.int .i64 f.S) ∧ W.cell? ⟨w.heap.size + 1, 3, none⟩ = some (.int .i64 f.P.K) ∧ W.cell? ⟨w.heap.size + 1, 4, none⟩ = some (.int .i64 f.P.V) ∧ W.cell? ⟨w.heap.size + 1, 5, none⟩ = some (.slice fa f.E.length fc) :=
  ⟨by rw [h.1.2.at]; rfl, by rw [h.1.2.at]; rfl, by rw [h.1.2.at]; rfl, by rw [h.1.2.at]; rfl, by rw [h.1.2.at]; rfl, by rw [h.1.2.at]; rfl, by rw [h.2.at]; rfl, by rw [h.2.at]; rfl, by rw [h.2.at]; rfl, by rw [h.2.at]; rfl, by rw [h.2.at]; rfl, by rw [h.2.at]; rfl⟩

/-- Read, where its answer is known. -/
theorem fRead_to (d : Cf) (da : Option Addr) (dc : Nat) (t : List UInt8) (w : World) (hok : d.Ok) (hs : t.length ≤ 1048576) (p : Fr) (er : Int) (h : readF d t = (p, er)) :
    Calls Tryd.prog 33 #[.agg #[.int .i64 d.N, .int .i64 d.Pi, .int .i64 d.E, .int .i64 d.G, .int .i64 d.F, .slice da d.P.length dc], .string ⟨t.toArray⟩] w fun e w' => ∃ (a : Option Addr) (cap : Nat), e = .returned (.tuple #[.agg #[.int .i64 p.K, .int .i64 p.R, .int .i64 p.S, .int .i64 p.P.K, .int .i64 p.P.V, .slice a p.E.length cap], .int .i64 er]) ∧ RowT w' a p.E ∧ Below w.heap.size w w' := by
  have hr := fRead_any d da dc t w hok hs
  rw [h] at hr
  exact hr.mono fun e w' ⟨a, cap, h1, h2, _, h3⟩ => ⟨a, cap, h1, h2, h3⟩

theorem fRead_at (d : Cf) (da : Option Addr) (dc : Nat) (t : List UInt8) (w : World) (hok : d.Ok) (hs : t.length ≤ 1048576) (p : Fr) (er : Int) (h : readF d t = (p, er)) :
    Calls Tryd.prog 33 #[.agg #[.int .i64 d.N, .int .i64 d.Pi, .int .i64 d.E, .int .i64 d.G, .int .i64 d.F, .slice da d.P.length dc], .string ⟨t.toArray⟩] w fun e w' => ∃ (a : Option Addr) (cap : Nat), e = .returned (.tuple #[.agg #[.int .i64 p.K, .int .i64 p.R, .int .i64 p.S, .int .i64 p.P.K, .int .i64 p.P.V, .slice a p.E.length cap], .int .i64 er]) ∧ RowT w' a p.E ∧ (∀ x, a = some x → w.heap.size ≤ x.block) ∧ Below w.heap.size w w' := by
  have hr := fRead_any d da dc t w hok hs
  rw [h] at hr
  exact hr

theorem turn_length (l : List UInt8) (i : Int) : (turn l i).length = l.length := by unfold turn; split <;> simp

/-- A new box of a frame, where a call has made memory since. -/
theorem box_since {w wm : World} (hb : Below (w.alloc (.cells zeroBox 29)).drew.heap.size (w.alloc (.cells zeroBox 29)).drew wm) : Blk wm w.heap.size 29 zeroBox := (Blk.drew1 (Blk.new w _ _)).later hb

end Go.Proofs.YtkflijbhlibadabDoor
/-
  A region that draws its order, walked operation by operation: each has a fact of its own on what it yields, and the blocks of memory on which the fact leans. An operation is run from the facts of those that it waits for, so what the region makes may be made at any time; a store fills a box that the region itself made.
-/
namespace Go.Proofs.YtkflijbhlibadabDoor
open Go.RowKit
set_option maxRecDepth 100000
set_option linter.unusedVariables false

abbrev Foot := Nat → Prop
abbrev Fact := Value → Foot → World → Prop
def anyFact : Fact := fun _ _ _ => True

/-- Worlds that agree on all that is old, and on a fact's own blocks. -/
def Agree (B : Nat) (Z : Foot) (W W' : World) : Prop := W.heap.size ≤ W'.heap.size ∧ ∀ n, n < W.heap.size → (n < B ∨ Z n) → W'.heap[n]? = W.heap[n]?
def Good (B : Nat) (f : Fact) : Prop := ∀ v Z W W', f v Z W → Agree B Z W W' → f v Z W'

/-- Only block b is another one. -/
structure Only (b : Nat) (W W' : World) : Prop where
  os : W'.os = W.os
  tape : W'.tape = W.tape
  output : W'.output = W.output
  size : W'.heap.size = W.heap.size
  rest : ∀ m, m ≠ b → W'.heap[m]? = W.heap[m]?
theorem Only.refl (b : Nat) (W : World) : Only b W W := ⟨rfl, rfl, rfl, rfl, fun _ _ => rfl⟩
theorem Only.set {b : Nat} {W W' : World} (h : Only b W W') (k : Nat) (u : Value) : Only b W (W'.setCell ⟨b, k, none⟩ u) :=
  ⟨h.os, h.tape, h.output, by rw [← h.size]; simp [World.setCell], fun m hm => (Below.heap_setCell W' ⟨b, k, none⟩ u m hm).trans (h.rest m hm)⟩
theorem Only.below {B b : Nat} {w0 W W' : World} (h : Only b W W') (hS : Below B w0 W) (hb : B ≤ b) : Below B w0 W' :=
  ⟨h.os.trans hS.os, h.tape.trans hS.tape, h.output.trans hS.output, by rw [h.size]; exact hS.size, fun i hi => (h.rest i (by omega)).trans (hS.block i hi)⟩

/-- Which slot each operation writes: D; of which slot each fact speaks: E (a store's of the slot of the box that it fills: T). -/
def dstOf (D : List (Option Nat)) (j : Nat) : Option Nat := (D[j]?).join
def yieldsOf (D : List (Option Tmp)) (a : Act) (j : Nat) : Option Bool := match dstOf D j with | some d => (match a.eval (.tmp d) with | .bool b => some b | _ => none) | none => none
def slotE (D T : List (Option Nat)) (j : Nat) : Option Tmp := match dstOf T j with | some i => dstOf D i | none => dstOf D j
/-- Is it a box that a store fills, or that store? -/
def isBox (T : List (Option Nat)) (i : Nat) : Bool := T.any (· == some i)
def isSt (T : List (Option Nat)) (i : Nat) : Bool := (dstOf T i).isSome

/-- The frame: its size, no defers, the slots that the region does not write. -/
structure Fm (n : Nat) (D : List (Option Nat)) (a0 a : Act) : Prop where
  size : a.tmps.size = n
  defers : a.defers = []
  old : ∀ k, (D.all fun x => x != some k) = true → a.eval (.tmp k) = a0.eval (.tmp k)

def dep (o : Oper) (i : Nat) : Bool := o.after.toList.any fun e => Region.binds .any e && e.on == i

/-- The blocks on which the facts of what an operation waits for lean. -/
def footD (T : List (Option Nat)) (o : Oper) (Zs : Nat → Foot) : Foot := fun m => ∃ i, dep o i = true ∧ isBox T i = false ∧ isSt T i = false ∧ Zs i m
def footN (T : List (Option Nat)) (o : Oper) (Zs : Nat → Foot) (W W' : World) : Foot := fun m => (W.heap.size ≤ m ∧ m < W'.heap.size) ∨ footD T o Zs m

/-- What is asked of one operation. -/
def Ob (P : Program) (w0 : World) (D T : List (Option Nat)) (n : Nat) (a0 : Act) (Q : Exit → Act → World → Prop) (j : Nat) (o : Oper) (fs : List Fact) (f : Fact) : Prop :=
  ∀ (a : Act) (W : World) (Zs : Nat → Foot), Below w0.heap.size w0 W → Fm n D a0 a → (∀ i m, dep o i = true → Zs i m → w0.heap.size ≤ m ∧ m < W.heap.size) →
    (∀ i d, dep o i = true → slotE D T i = some d → fs.getD i anyFact (a.eval (.tmp d)) (Zs i) W) →
    match dstOf T j with
    | none => (Region.wanted o (yieldsOf D a) = true ∧ ∀ K : Act → World → Prop, (∀ v W', f v (footN T o Zs W W') W' → Below W.heap.size W W' → K (a.put o.dst v) W') → o.wp P a W K Q) ∨ (Region.wanted o (yieldsOf D a) = false ∧ f undef (footD T o Zs) W)
    | some i => (∀ x m, dep o x = true → x ≠ i → Zs x m → ¬ Zs i m) → Region.wanted o (yieldsOf D a) = true ∧ ∃ b, Zs i b ∧ ∀ K : Act → World → Prop, (∀ v W', Only b W W' → (∀ d, dstOf D i = some d → f (a.eval (.tmp d)) (fun m => m = b ∨ footD T o Zs m) W' ∧ fs.getD i anyFact (a.eval (.tmp d)) (Zs i) W') → K (a.put o.dst v) W') → o.wp P a W K Q

def Steps (P : Program) (w0 : World) (D T : List (Option Nat)) (n : Nat) (a0 : Act) (Q : Exit → Act → World → Prop) (R : List Fact → Prop) : List Oper → Nat → List Fact → Prop
  | [], _, fs => R fs
  | o :: rest, j, fs => ∃ f : Fact, Good w0.heap.size f ∧ Ob P w0 D T n a0 Q j o fs f ∧ Steps P w0 D T n a0 Q R rest (j + 1) (fs ++ [f])

theorem steps_all {P : Program} {w0 : World} {D T : List (Option Nat)} {n : Nat} {a0 : Act} {Q : Exit → Act → World → Prop} {R : List Fact → Prop} : ∀ (rest : List Oper) (fs0 : List Fact), Steps P w0 D T n a0 Q R rest fs0.length fs0 →
    ∃ fs : List Fact, fs.length = fs0.length + rest.length ∧ fs.take fs0.length = fs0 ∧ R fs ∧
      ∀ i o, rest[i]? = some o → Good w0.heap.size (fs.getD (fs0.length + i) anyFact) ∧ Ob P w0 D T n a0 Q (fs0.length + i) o (fs.take (fs0.length + i)) (fs.getD (fs0.length + i) anyFact)
  | [], fs0, h => ⟨fs0, by simp, by simp, h, fun i o hi => by simp at hi⟩
  | o :: rest, fs0, ⟨f, hst, hob, h⟩ => by
    have hlen : (fs0 ++ [f]).length = fs0.length + 1 := by simp
    obtain ⟨fs, hl, ht, hR, hall⟩ := steps_all rest (fs0 ++ [f]) (by rw [hlen]; exact h)
    rw [hlen] at hl ht hall
    have ht0 : fs.take fs0.length = fs0 := by
      have := congrArg (List.take fs0.length) ht
      rw [List.take_take, Nat.min_eq_left (by omega)] at this
      simpa using this
    have hf : fs.getD fs0.length anyFact = f := by
      have := congrArg (fun x => x[fs0.length]?) ht
      simp only [List.getElem?_take, List.getElem?_append_right (Nat.le_refl _), Nat.sub_self] at this
      rw [if_pos (by omega)] at this
      rw [List.getD_eq_getElem?_getD, this]
      rfl
    refine ⟨fs, by simp at hl ⊢; omega, ht0, hR, fun i o' hi => ?_⟩
    cases i with
    | zero =>
      simp at hi
      subst hi
      rw [Nat.add_zero, hf, ht0]
      exact ⟨hst, hob⟩
    | succ i =>
      have := hall i o' (by simpa using hi)
      rw [show fs0.length + (i + 1) = fs0.length + 1 + i by omega]
      exact this

/-- The region's own form: no two operations write one slot, each waits for earlier ones alone, all slots are there; a store waits for its box, which waits for nothing, and no two fill one. -/
def listM (n m : Nat) : Array Bool := ((List.range n).map fun i => decide (i < m)).toArray
def slotsB (l : List Oper) (D T : List (Option Nat)) (n m : Nat) : Bool :=
  ((List.range l.length).all fun i => (List.range l.length).all fun j => i == j || dstOf D i == none || dstOf D i != dstOf D j) &&
  ((List.range l.length).all fun i => match l[i]? with | some o => o.after.all fun e => !Region.binds .any e || decide (e.on < i) | none => true) &&
  (D.all fun x => match x with | some d => decide (d < n) | none => true) && (l.map (·.dst) == D) &&
  ((List.range l.length).all fun k => match dstOf T k, l[k]? with | some i, some o => dep o i && !isSt T i && (match l[i]? with | some b => b.after.all fun e => !Region.binds .any e | none => false) && ((List.range l.length).all fun j => j == k || dstOf T j != some i) | _, _ => true) && (T.length == l.length) &&
  (decide (m ≤ l.length) && ((List.range l.length).all fun t => decide (t < m) || ((dstOf T t).isNone && match l[t]? with | some o => (List.range m).all fun j => dep o j | none => true)) && Region.seqB .any l.toArray (l.length - m) m (listM l.length m))

theorem eval_put_same (a : Act) (d : Tmp) (v : Value) (h : d < a.tmps.size) : (a.put (some d) v).eval (.tmp d) = v := by
  simp [Act.put, Act.eval, h]
theorem eval_put_other (a : Act) (dst : Option Tmp) (d : Tmp) (v : Value) (h : dst ≠ some d) : (a.put dst v).eval (.tmp d) = a.eval (.tmp d) := by
  cases dst with
  | none => rfl
  | some d' =>
    have hne : d' ≠ d := fun e => h (by rw [e])
    simp only [Act.put, Act.eval, Array.getD_eq_getD_getElem?, Array.getElem?_setIfInBounds, if_neg hne]
theorem size_put (a : Act) (dst : Option Tmp) (v : Value) : (a.put dst v).tmps.size = a.tmps.size := by
  cases dst <;> simp [Act.put]
theorem defers_put (a : Act) (dst : Option Tmp) (v : Value) : (a.put dst v).defers = a.defers := by
  cases dst <;> rfl

theorem count_set {l : List Bool} {i : Nat} (h : l[i]? = some false) : (l.set i true).count false + 1 = l.count false := by
  have hi : i < l.length := by
    rcases Nat.lt_or_ge i l.length with h' | h'
    · exact h'
    · rw [List.getElem?_eq_none h'] at h; cases h
  have he : l[i] = false := by
    have := List.getElem?_eq_getElem hi
    rw [h] at this
    injection this with this
    exact this.symm
  rw [List.count_set hi, he]
  have hpos : 0 < l.count false := List.count_pos_iff.2 (he ▸ List.getElem_mem hi)
  simp
  omega

/-- What holds while the region is under way: of what is listed. -/
structure Inv (w0 : World) (D T : List (Option Nat)) (n : Nat) (a0 : Act) (fs : List Fact) (listed : Nat → Bool) (a : Act) (W : World) (Zs : Nat → Foot) : Prop where
  bel : Below w0.heap.size w0 W
  fm : Fm n D a0 a
  rng : ∀ j, listed j = true → ∀ m, Zs j m → w0.heap.size ≤ m ∧ m < W.heap.size
  fact : ∀ j d, listed j = true → slotE D T j = some d → fs.getD j anyFact (a.eval (.tmp d)) (Zs j) W
  apart : ∀ j i, listed j = true → listed i = true → isBox T i = true → j ≠ i → dstOf T j ≠ some i → ∀ m, Zs j m → ¬ Zs i m
  tied : ∀ k i, listed k = true → dstOf T k = some i → listed i = true

theorem count_listM (n m : Nat) (h : m ≤ n) : ((listM n m).toList.count false) = n - m := by
  unfold listM
  simp only
  obtain ⟨k, rfl⟩ : ∃ k, n = m + k := ⟨n - m, by omega⟩
  rw [List.range_add, List.map_append, List.count_append]
  have h1 : ((List.range m).map fun i => decide (i < m)).count false = 0 := by
    rw [List.count_eq_zero]
    intro hm
    obtain ⟨i, hi, e⟩ := List.mem_map.1 hm
    have := List.mem_range.1 hi
    simp at e
    omega
  have h2 : (((List.range k).map (m + ·)).map fun i => decide (i < m)) = List.replicate k false := by
    rw [List.map_map]
    apply List.ext_getElem
    · simp
    · intro i h1 h2
      simp
  rw [h1, h2]
  simp

theorem isBox_of {T : List (Option Nat)} {k i : Nat} (h : dstOf T k = some i) : isBox T i = true := by
  unfold dstOf at h
  unfold isBox
  rw [List.any_eq_true]
  cases hk : T[k]? with
  | none => rw [hk] at h; cases h
  | some x => rw [hk] at h; exact ⟨x, List.mem_of_getElem? hk, by simpa using h⟩
theorem of_isBox {T : List (Option Nat)} {i : Nat} (h : isBox T i = true) : ∃ k, dstOf T k = some i := by
  unfold isBox at h
  rw [List.any_eq_true] at h
  obtain ⟨x, hx, e⟩ := h
  obtain ⟨k, hk⟩ := List.getElem?_of_mem hx
  refine ⟨k, ?_⟩
  unfold dstOf
  rw [hk]
  simpa using e

theorem region_tail {P : Program} {id : Nat} {l : List Oper} {a0 : Act} {w : World} {Q : Exit → Act → World → Prop} (D T : List (Option Nat)) (n m : Nat) (hm : P.follows .mixedOrders = true) (hB : slotsB l D T n m = true) (hz0 : a0.tmps.size = n) (hf0 : a0.defers = [])
    (h : Steps P w.drew D T n a0 Q (fun fs => ∀ (a : Act) (W : World) (Zs : Nat → Foot), Below w.drew.heap.size w.drew W → Fm n D a0 a → (∀ j, j < m → ∀ x, Zs j x → w.drew.heap.size ≤ x ∧ x < W.heap.size) → (∀ j d, j < m → slotE D T j = some d → fs.getD j anyFact (a.eval (.tmp d)) (Zs j) W) → wpList P l.toArray Q (l.drop m) a W) (l.take m) 0 []) : (Code.region id l.toArray true).wp P Q a0 w := by
  suffices H : ∀ w0 : World, Steps P w0 D T n a0 Q (fun fs => ∀ (a : Act) (W : World) (Zs : Nat → Foot), Below w0.heap.size w0 W → Fm n D a0 a → (∀ j, j < m → ∀ x, Zs j x → w0.heap.size ≤ x ∧ x < W.heap.size) → (∀ j d, j < m → slotE D T j = some d → fs.getD j anyFact (a.eval (.tmp d)) (Zs j) W) → wpList P l.toArray Q (l.drop m) a W) (l.take m) 0 [] → wpAny P .any l.toArray Q l.length (Array.replicate l.length false) a0 w0 by
    refine wp_region_any hm ?_
    have := H w.drew h
    simpa using this
  clear h
  intro w0 h
  obtain ⟨fs, hlen, _, hR, hall⟩ := steps_all (l.take m) [] h
  simp only [List.length_nil, Nat.zero_add] at hlen hall
  unfold slotsB at hB
  simp only [Bool.and_eq_true] at hB
  obtain ⟨⟨⟨⟨⟨⟨hd1, hd2⟩, hd3⟩, hd4⟩, hd5⟩, hd6⟩, ⟨hmle, hd7⟩, hseq⟩ := hB
  have hml : m ≤ l.length := by simpa using hmle
  replace hall : ∀ i o, i < m → l[i]? = some o → Good w0.heap.size (fs.getD i anyFact) ∧ Ob P w0 D T n a0 Q i o (fs.take i) (fs.getD i anyFact) := fun i o hi ho => hall i o (by rw [List.getElem?_take, if_pos hi]; exact ho)
  have htl : ∀ t o, m ≤ t → l[t]? = some o → dstOf T t = none ∧ ∀ j, j < m → dep o j = true := by
    intro t o ht ho
    have lt' : t < l.length := by
      rcases Nat.lt_or_ge t l.length with h' | h'
      · exact h'
      · rw [List.getElem?_eq_none h'] at ho; cases ho
    have h1 := List.all_eq_true.1 hd7 t (List.mem_range.2 lt')
    rw [ho] at h1
    simp only [Bool.or_eq_true, decide_eq_true_eq, Bool.and_eq_true] at h1
    rcases h1 with h1 | ⟨h1, h2⟩
    · omega
    · exact ⟨by simpa using h1, fun j hj => List.all_eq_true.1 h2 j (List.mem_range.2 hj)⟩
  have hD : l.map (·.dst) = D := by simpa using hd4
  have hDl : D.length = l.length := by rw [← hD]; simp
  have hTl : T.length = l.length := by simpa using hd6
  have dD : ∀ j, dstOf D j = (l[j]?).bind (·.dst) := by
    intro j
    unfold dstOf
    rw [← hD, List.getElem?_map]
    cases l[j]? <;> rfl
  have ltD : ∀ j d, dstOf D j = some d → j < l.length := by
    intro j d hj
    rcases Nat.lt_or_ge j l.length with h' | h'
    · exact h'
    · rw [dD, List.getElem?_eq_none h'] at hj; cases hj
  have ltT : ∀ j i, dstOf T j = some i → j < l.length := by
    intro j d hj
    rcases Nat.lt_or_ge j l.length with h' | h'
    · exact h'
    · unfold dstOf at hj; rw [List.getElem?_eq_none (by omega)] at hj; cases hj
  have hdist : ∀ i j d, dstOf D i = some d → dstOf D j = some d → i = j := by
    intro i j d hi hj
    have h1 := List.all_eq_true.1 (List.all_eq_true.1 hd1 i (List.mem_range.2 (ltD i d hi))) j (List.mem_range.2 (ltD j d hj))
    rw [hi, hj] at h1
    simpa using h1
  have hdep : ∀ i o, l[i]? = some o → ∀ e ∈ o.after, Region.binds .any e = true → e.on < i := by
    intro i o hi e he hb
    have li : i < l.length := by
      rcases Nat.lt_or_ge i l.length with h' | h'
      · exact h'
      · rw [List.getElem?_eq_none h'] at hi; cases hi
    have h1 := List.all_eq_true.1 hd2 i (List.mem_range.2 li)
    rw [hi] at h1
    have h2 := Array.all_eq_true_iff_forall_mem.1 h1 e he
    rw [hb] at h2
    simpa using h2
  have hdep2 : ∀ i o, l[i]? = some o → ∀ x, dep o x = true → x < i := by
    intro i o hi x hx
    unfold dep at hx
    obtain ⟨e, he', hbe⟩ := List.any_eq_true.1 hx
    simp only [Bool.and_eq_true, beq_iff_eq] at hbe
    have := hdep i o hi e (by simpa using he') hbe.1
    omega
  have hfit : ∀ j d, dstOf D j = some d → d < n ∧ ∀ k, (D.all fun x => x != some k) = true → k ≠ d := by
    intro j d hj
    unfold dstOf at hj
    cases hl : D[j]? with
    | none => rw [hl] at hj; cases hj
    | some x =>
      rw [hl] at hj
      have hx : x = some d := hj
      have h1 := List.all_eq_true.1 hd3 x (List.mem_of_getElem? hl)
      rw [hx] at h1
      simp only [decide_eq_true_eq] at h1
      refine ⟨h1, fun k hk e => ?_⟩
      have h2 := List.all_eq_true.1 hk x (List.mem_of_getElem? hl)
      rw [hx, e] at h2
      simp at h2
  have hst : ∀ k i o, dstOf T k = some i → l[k]? = some o → dep o i = true ∧ isSt T i = false ∧ (∃ b, l[i]? = some b ∧ ∀ x, dep b x = false) ∧ ∀ j, dstOf T j = some i → j = k := by
    intro k i o hk ho
    have h1 := List.all_eq_true.1 hd5 k (List.mem_range.2 (ltT k i hk))
    rw [hk, ho] at h1
    simp only [Bool.and_eq_true] at h1
    obtain ⟨⟨⟨h1, h2⟩, h3⟩, h4⟩ := h1
    refine ⟨h1, by simpa using h2, ?_, fun j hj => ?_⟩
    · cases hb : l[i]? with
      | none => rw [hb] at h3; simp at h3
      | some b =>
        refine ⟨b, rfl, fun x => ?_⟩
        rw [hb] at h3
        unfold dep
        rw [List.any_eq_false]
        intro e he hx
        have h5 := Array.all_eq_true_iff_forall_mem.1 h3 e (by simpa using he)
        simp only [Bool.and_eq_true] at hx
        rw [hx.1] at h5
        simp at h5
    · have h5 := List.all_eq_true.1 h4 j (List.mem_range.2 (ltT j i hj))
      rw [hj] at h5
      simpa using h5
  have hyield : ∀ a : Act, Fm n D a0 a → ∀ j, yielded l.toArray a.tmps j = yieldsOf D a j := by
    intro a hF j
    unfold yielded yieldsOf
    rw [dD, List.getElem?_toArray]
    cases hb : (l[j]?).bind (·.dst) with
    | none => rfl
    | some d =>
      have hlt : d < a.tmps.size := by rw [hF.size]; exact (hfit j d (by rw [dD]; exact hb)).1
      simp only [Option.bind_some, Array.getElem?_eq_getElem hlt, Act.eval, Array.getD_eq_getD_getElem?, Option.getD_some]
      cases a.tmps[d] <;> rfl
  have main : ∀ (fuel : Nat) (listed : Array Bool) (a : Act) (W : World) (Zs : Nat → Foot), Inv w0 D T n a0 fs (fun j => listed.getD j false) a W Zs → listed.size = l.length → (∀ t, m ≤ t → listed.getD t false = false) → listed.toList.count false = fuel →
      wpAny P .any l.toArray Q fuel listed a W := by
    intro fuel
    induction fuel with
    | zero =>
      intro listed a W Zs hI hsz htail hc
      have hno : ∀ j, listed.getD j true = true := by
        intro j
        cases hj : listed[j]? with
        | none => simp [hj]
        | some b =>
          cases b with
          | true => simp [hj]
          | false =>
            have : false ∈ listed.toList := List.mem_of_getElem? (by rw [Array.getElem?_toList]; exact hj)
            have := List.count_pos_iff.2 this
            omega
      have hin : ∀ j, j < l.length → listed.getD j false = true := by
        intro j lj
        have h1 := hno j
        have lj' : j < listed.size := by omega
        simp [lj'] at h1 ⊢
        exact h1
      have hmm : l.length ≤ m := by
        rcases Nat.lt_or_ge m l.length with h' | h'
        · have h1 := htail m (Nat.le_refl _)
          rw [hin m h'] at h1
          cases h1
        · exact h'
      have hR1 := hR a W Zs hI.bel hI.fm (fun j hj => hI.rng j (hin j (by omega))) fun j d hj hd => hI.fact j d (hin j (by omega)) hd
      rw [List.drop_eq_nil_of_le hmm] at hR1
      refine ⟨?_, hR1⟩
      rw [List.eq_nil_iff_forall_not_mem]
      intro j hj
      have := (mem_ready.1 hj).1
      rw [hno j] at this
      cases this
    | succ fuel ih =>
      intro listed a W Zs hI hsz htail hc
      by_cases hpre : ∀ j, j < m → listed.getD j false = true
      · have hli : listed = listM l.length m := by
          apply Array.ext
          · simp [listM, hsz]
          · intro i h1 h2
            have e1 : listed[i] = listed.getD i false := by simp [h1]
            rw [e1]
            simp only [listM, List.getElem_toArray, List.getElem_map, List.getElem_range]
            by_cases him : i < m
            · rw [hpre i him]; simp [him]
            · rw [htail i (by omega)]; simp; omega
        have hR1 := hR a W Zs hI.bel hI.fm (fun j hj => hI.rng j (hpre j hj)) fun j d hj hd => hI.fact j d (hpre j hj) hd
        have hcnt : (l.drop m).length = fuel + 1 := by
          rw [← hc, hli, List.length_drop]
          simp only [listM]
          have := count_listM l.length m hml
          simp only [listM] at this
          omega
        have := wpAny_of_seq (md := .any) (Q' := Q) (l.drop m) m listed a W (fun j => by simp [List.getElem?_drop]) (by rw [List.length_drop, hli]; exact hseq) hR1
        rw [hcnt] at this
        exact this
      have hsome : ∃ j, j < m ∧ j ∈ Region.ready .any l.toArray listed := by
        have hne : ∃ j, j < m ∧ listed.getD j false = false := by
          rcases Classical.em (∃ j, j < m ∧ listed.getD j false = false) with h' | h'
          · exact h'
          · exact absurd (fun j hj => by
              cases hq : listed.getD j false with
              | true => rfl
              | false => exact absurd ⟨j, hj, hq⟩ h') hpre
        obtain ⟨j0, hj0, hf⟩ := hne
        have : ∀ j, j ≤ j0 → listed.getD j false = false → ∃ i, i < m ∧ i ∈ Region.ready .any l.toArray listed := by
          intro j
          induction j using Nat.strongRecOn with
          | _ j ihj =>
            intro hjj hjf
            have lj : j < l.length := by omega
            have lj' : j < listed.size := by omega
            by_cases hd : ∀ e ∈ l[j].after, Region.binds .any e = true → listed.getD e.on false = true
            · exact ⟨j, by omega, by
                rw [mem_ready]
                exact ⟨by simp [lj'] at hjf ⊢; exact hjf, l[j], by simp [lj], hd⟩⟩
            · have : ∃ e, e ∈ l[j].after ∧ Region.binds .any e = true ∧ listed.getD e.on false = false := by
                rcases Classical.em (∃ e, e ∈ l[j].after ∧ Region.binds .any e = true ∧ listed.getD e.on false = false) with h' | h'
                · exact h'
                · exact absurd (fun e he hb => by
                    cases hq : listed.getD e.on false with
                    | true => rfl
                    | false => exact absurd ⟨e, he, hb, hq⟩ h') hd
              obtain ⟨e, he, hb, hf⟩ := this
              have := hdep j l[j] (List.getElem?_eq_getElem lj) e he hb
              exact ihj e.on this (by omega) hf
        exact this j0 (Nat.le_refl _) hf
      refine ⟨fun hr => ?_, fun i hi => ?_⟩
      · obtain ⟨j, _, hj⟩ := hsome
        rw [hr] at hj
        cases hj
      · obtain ⟨hun, o, ho, hdeps⟩ := mem_ready.1 hi
        have ho' : l[i]? = some o := by simpa using ho
        have li : i < l.length := by
          rcases Nat.lt_or_ge i l.length with h' | h'
          · exact h'
          · rw [List.getElem?_eq_none h'] at ho'; cases ho'
        have him : i < m := by
          rcases Nat.lt_or_ge i m with h' | h'
          · exact h'
          · exfalso
            refine hpre fun j hj => ?_
            have h2 := (htl i o h' ho').2 j hj
            unfold dep at h2
            obtain ⟨e, he', hbe⟩ := List.any_eq_true.1 h2
            simp only [Bool.and_eq_true, beq_iff_eq] at hbe
            have := hdeps e (by simpa using he') hbe.1
            rw [hbe.2] at this
            exact this
        have liz : i < listed.size := by omega
        have hnot : listed.getD i false = false := by simp [liz] at hun ⊢; exact hun
        have hdl : ∀ x, dep o x = true → listed.getD x false = true := by
          intro x hx
          unfold dep at hx
          obtain ⟨e, he', hbe⟩ := List.any_eq_true.1 hx
          simp only [Bool.and_eq_true, beq_iff_eq] at hbe
          have := hdeps e (by simpa using he') hbe.1
          rw [hbe.2] at this
          exact this
        obtain ⟨_, hob⟩ := hall i o him ho'
        have hob1 := hob a W Zs hI.bel hI.fm (fun x m hx hz => hI.rng x (hdl x hx) m hz) (fun j d hj hd => by
          have hlt := hdep2 i o ho' j hj
          rw [List.getD_eq_getElem?_getD, List.getElem?_take, if_pos hlt, ← List.getD_eq_getElem?_getD]
          exact hI.fact j d (hdl j hj) hd)
        have hcount := count_set (l := listed.toList) (i := i) (by
          rw [Array.getElem?_toList]
          simp [liz] at hun ⊢
          exact hun)
        have hl2 : ∀ x, (listed.setIfInBounds i true).getD x false = if x = i then true else listed.getD x false := by
          intro x
          rw [Array.getD_eq_getD_getElem?, Array.getElem?_setIfInBounds]
          by_cases hx : i = x
          · subst hx
            simp [liz]
          · rw [if_neg hx, if_neg (fun e => hx e.symm), Array.getD_eq_getD_getElem?]
        -- the frame, and the slots of older facts
        have fm2 : ∀ v, Fm n D a0 (a.put o.dst v) := fun v => ⟨by rw [size_put]; exact hI.fm.size, by rw [defers_put]; exact hI.fm.defers, fun k hk => by
          rw [eval_put_other a o.dst k v (fun e => (hfit i k (by rw [dD, ho']; exact e)).2 k hk rfl)]
          exact hI.fm.old k hk⟩
        have keepS : ∀ v j d, listed.getD j false = true → slotE D T j = some d → (a.put o.dst v).eval (.tmp d) = a.eval (.tmp d) := by
          intro v j d hj hd
          refine eval_put_other a o.dst d v fun e => ?_
          have e1 : dstOf D i = some d := by rw [dD, ho']; exact e
          unfold slotE at hd
          cases ht : dstOf T j with
          | none =>
            rw [ht] at hd
            have := hdist i j d e1 hd
            rw [← this, hnot] at hj
            cases hj
          | some x =>
            rw [ht] at hd
            have := hdist i x d e1 hd
            have hx := hI.tied j x hj ht
            rw [← this, hnot] at hx
            cases hx
        have hlm : ∀ j, listed.getD j false = true → j < m := by
          intro j hj
          rcases Nat.lt_or_ge j m with h' | h'
          · exact h'
          · rw [htail j h'] at hj; cases hj
        have htail2 : ∀ t, m ≤ t → (listed.setIfInBounds i true).getD t false = false := by
          intro t ht
          rw [hl2, if_neg (by omega)]
          exact htail t ht
        have hcount2 : (listed.setIfInBounds i true).toList.count false = fuel := by rw [Array.toList_setIfInBounds]; omega
        have goodj : ∀ j, listed.getD j false = true → Good w0.heap.size (fs.getD j anyFact) := by
          intro j hj
          have lj : j < l.length := by have := hlm j hj; omega
          exact (hall j l[j] (hlm j hj) (List.getElem?_eq_getElem lj)).1
        cases hT : dstOf T i with
        | none =>
          rw [hT] at hob1
          -- whatever it yields: the world grew, the facts hold on
          have go : ∀ v W' (Z' : Foot), fs.getD i anyFact v Z' W' → Below W.heap.size W W' → (∀ m, Z' m → (W.heap.size ≤ m ∧ m < W'.heap.size) ∨ footD T o Zs m) → wpAny P .any l.toArray Q fuel (listed.setIfInBounds i true) (a.put o.dst v) W' := by
            intro v W' Z' hv hb hZ
            have hag : ∀ Z, Agree w0.heap.size Z W W' := fun Z => ⟨hb.size, fun m hm _ => hb.block m hm⟩
            have hrange : ∀ m, Z' m → w0.heap.size ≤ m ∧ m < W'.heap.size := by
              intro m hm
              rcases hZ m hm with ⟨h1, h2⟩ | ⟨x, hx, _, _, hz⟩
              · exact ⟨Nat.le_trans hI.bel.size h1, h2⟩
              · have := hI.rng x (hdl x hx) m hz
                exact ⟨this.1, Nat.lt_of_lt_of_le this.2 hb.size⟩
            refine ih _ _ W' (fun x => if x = i then Z' else Zs x) ⟨hI.bel.trans (hb.mono hI.bel.size), fm2 v, ?_, ?_, ?_, ?_⟩ (by simpa using hsz) htail2 hcount2
            · intro j hj m hz
              simp only [hl2] at hj
              by_cases hji : j = i
              · simp only [if_pos hji] at hz
                exact hrange m hz
              · simp only [if_neg hji] at hz hj
                have := hI.rng j hj m hz
                exact ⟨this.1, Nat.lt_of_lt_of_le this.2 hb.size⟩
            · intro j d hj hd
              simp only [hl2] at hj
              by_cases hji : j = i
              · simp only [if_pos hji]
                subst hji
                have hd' : o.dst = some d := by unfold slotE at hd; rw [hT] at hd; rw [dD, ho'] at hd; exact hd
                rw [hd', eval_put_same a d v (by rw [hI.fm.size]; exact (hfit j d (by rw [dD, ho']; exact hd')).1)]
                exact hv
              · simp only [if_neg hji] at hj ⊢
                rw [keepS v j d hj hd]
                exact goodj j hj _ _ _ _ (hI.fact j d hj hd) (hag _)
            · intro j x hj hx hbx hne hnt m hz1 hz2
              simp only [hl2] at hj hx
              by_cases hji : j = i
              · by_cases hxi : x = i
                · omega
                · simp only [if_pos hji] at hz1
                  simp only [if_neg hxi] at hz2 hx
                  rcases hZ m hz1 with ⟨h1, h2⟩ | ⟨y, hy, hyb, hys, hz⟩
                  · have := (hI.rng x hx m hz2).2; omega
                  · refine hI.apart y x (hdl y hy) hx hbx (fun e => ?_) (fun e => ?_) m hz hz2
                    · rw [e, hbx] at hyb; cases hyb
                    · unfold isSt at hys; rw [e] at hys; cases hys
              · simp only [if_neg hji] at hz1 hj
                by_cases hxi : x = i
                · simp only [if_pos hxi] at hz2
                  subst hxi
                  obtain ⟨k, hk⟩ := of_isBox hbx
                  have lk := ltT k x hk
                  obtain ⟨_, _, ⟨b, hb1, hb2⟩, _⟩ := hst k x l[k] hk (List.getElem?_eq_getElem lk)
                  rw [ho'] at hb1
                  injection hb1 with hb1
                  rcases hZ m hz2 with ⟨h1, h2⟩ | ⟨y, hy, _, _, hz⟩
                  · have := (hI.rng j hj m hz1).2; omega
                  · rw [hb1, hb2] at hy; cases hy
                · simp only [if_neg hxi] at hz2 hx
                  exact hI.apart j x hj hx hbx hne hnt m hz1 hz2
            · intro k x hk hkx
              simp only [hl2] at hk ⊢
              by_cases hxi : x = i
              · simp [hxi]
              · rw [if_neg hxi]
                by_cases hki : k = i
                · rw [hki, hT] at hkx; cases hkx
                · simp only [if_neg hki] at hk
                  exact hI.tied k x hk hkx
          rcases hob1 with ⟨hw, hrun⟩ | ⟨hw, hf⟩
          · have hw' : Region.wanted o (yielded l.toArray a.tmps) = true := by
              rw [show yielded l.toArray a.tmps = yieldsOf D a from funext (hyield a hI.fm)]
              exact hw
            unfold wpOp
            simp only [ho, hw', if_true]
            exact .inl (hrun _ fun v W' hv hb => go v W' _ hv hb (fun m hm => hm))
          · have hw' : Region.wanted o (yielded l.toArray a.tmps) = false := by
              rw [show yielded l.toArray a.tmps = yieldsOf D a from funext (hyield a hI.fm)]
              exact hw
            unfold wpOp
            simp only [ho, hw', Bool.false_eq_true, if_false]
            exact go undef W _ hf (Below.refl _ _) (fun m hm => .inr hm)
        | some bx =>
          rw [hT] at hob1
          obtain ⟨hdb, hsb, ⟨bo, hbo, _⟩, huniq⟩ := hst i bx o hT ho'
          have hlb := hdl bx hdb
          obtain ⟨hw, b, hzb, hrun⟩ := hob1 fun x m hx hxb hz => hI.apart x bx (hdl x hx) hlb (isBox_of hT) hxb (fun e => by have := huniq x e; have := hdep2 i o ho' x hx; omega) m hz
          have hbr := hI.rng bx hlb b hzb
          have hw' : Region.wanted o (yielded l.toArray a.tmps) = true := by
            rw [show yielded l.toArray a.tmps = yieldsOf D a from funext (hyield a hI.fm)]
            exact hw
          unfold wpOp
          simp only [ho, hw', if_true]
          refine .inl (hrun _ fun v W' hO hf => ?_)
          have hne : bx ≠ i := by have := hdep2 i o ho' bx hdb; omega
          refine ih _ _ W' (fun x => if x = i then (fun m => m = b ∨ footD T o Zs m) else Zs x) ⟨hO.below hI.bel hbr.1, fm2 v, ?_, ?_, ?_, ?_⟩ (by simpa using hsz) htail2 hcount2
          · intro j hj m hz
            simp only [hl2] at hj
            rw [hO.size]
            by_cases hji : j = i
            · simp only [if_pos hji] at hz
              rcases hz with rfl | ⟨x, hx, _, _, hz⟩
              · exact hbr
              · exact hI.rng x (hdl x hx) m hz
            · simp only [if_neg hji] at hz hj
              exact hI.rng j hj m hz
          · intro j d hj hd
            simp only [hl2] at hj
            by_cases hji : j = i
            · simp only [if_pos hji]
              subst hji
              have hd1 : dstOf D bx = some d := by unfold slotE at hd; rw [hT] at hd; exact hd
              rw [keepS v bx d hlb (by unfold slotE; unfold isSt at hsb; cases hq : dstOf T bx with
                | none => exact hd1
                | some y => rw [hq] at hsb; cases hsb)]
              exact (hf d hd1).1
            · simp only [if_neg hji] at hj ⊢
              rw [keepS v j d hj hd]
              by_cases hjb : j = bx
              · have hd1 : dstOf D bx = some d := by
                  rw [hjb] at hd
                  unfold slotE at hd
                  unfold isSt at hsb
                  cases hq : dstOf T bx with
                  | none => rw [hq] at hd; exact hd
                  | some y => rw [hq] at hsb; cases hsb
                have := (hf d hd1).2
                have hlt := hdep2 i o ho' bx hdb
                rw [List.getD_eq_getElem?_getD, List.getElem?_take, if_pos hlt, ← List.getD_eq_getElem?_getD] at this
                rw [hjb]
                exact this
              · refine goodj j hj _ _ _ _ (hI.fact j d hj hd) ⟨by rw [hO.size]; exact Nat.le_refl _, fun m hm hmz => hO.rest m fun e => ?_⟩
                subst e
                rcases hmz with h1 | h1
                · omega
                · exact hI.apart j bx hj hlb (isBox_of hT) hjb (fun e => hji (huniq j e)) m h1 hzb
          · intro j x hj hx hbx hnejx hnt m hz1 hz2
            simp only [hl2] at hj hx
            have hix : isBox T i = false := by
              cases hq : isBox T i with
              | false => rfl
              | true =>
                obtain ⟨k, hk⟩ := of_isBox hq
                have lk := ltT k i hk
                obtain ⟨_, h2, _, _⟩ := hst k i l[k] hk (List.getElem?_eq_getElem lk)
                unfold isSt at h2
                rw [hT] at h2
                cases h2
            have hxi : x ≠ i := fun e => by rw [e, hix] at hbx; cases hbx
            simp only [if_neg hxi] at hz2 hx
            by_cases hji : j = i
            · simp only [if_pos hji] at hz1
              rw [hji, hT] at hnt
              have hxb : bx ≠ x := fun e => hnt (by rw [e])
              rcases hz1 with rfl | ⟨y, hy, hyb, hys, hz⟩
              · refine hI.apart bx x hlb hx hbx hxb (fun e => ?_) m hzb hz2
                unfold isSt at hsb
                rw [e] at hsb
                cases hsb
              · refine hI.apart y x (hdl y hy) hx hbx (fun e => ?_) (fun e => ?_) m hz hz2
                · rw [e, hbx] at hyb; cases hyb
                · unfold isSt at hys; rw [e] at hys; cases hys
            · simp only [if_neg hji] at hz1 hj
              exact hI.apart j x hj hx hbx hnejx hnt m hz1 hz2
          · intro k x hk hkx
            simp only [hl2] at hk ⊢
            by_cases hxi : x = i
            · simp [hxi]
            · rw [if_neg hxi]
              by_cases hki : k = i
              · rw [hki, hT] at hkx
                injection hkx with hkx
                rw [← hkx]
                exact hlb
              · simp only [if_neg hki] at hk
                exact hI.tied k x hk hkx
  have hl0 : ∀ j, ¬ (Array.replicate l.length false).getD j false = true := by
    intro j hj
    rw [Array.getD_eq_getD_getElem?, Array.getElem?_replicate] at hj
    split at hj <;> simp at hj
  have := main l.length (Array.replicate l.length false) a0 w0 (fun _ _ => False) ⟨Below.refl _ _, ⟨hz0, hf0, fun _ _ => rfl⟩, fun j hj => absurd hj (hl0 j), fun j d hj => absurd hj (hl0 j), fun j i hj => absurd hj (hl0 j), fun k i hk => absurd hk (hl0 k)⟩ (by simp) (fun t _ => by cases hq : (Array.replicate l.length false).getD t false with | false => rfl | true => exact absurd hq (hl0 t)) (by simp)
  exact this

theorem region_slots {P : Program} {id : Nat} {l : List Oper} {a0 : Act} {w : World} {Q : Exit → Act → World → Prop} (D T : List (Option Nat)) (n m : Nat) (hl : l.length = m) (hm : P.follows .mixedOrders = true) (hB : slotsB l D T n m = true) (hz0 : a0.tmps.size = n) (hf0 : a0.defers = [])
    (h : Steps P w.drew D T n a0 Q (fun fs => ∀ (a : Act) (W : World) (Zs : Nat → Foot), Below w.drew.heap.size w.drew W → Fm n D a0 a → (∀ j, j < m → ∀ x, Zs j x → w.drew.heap.size ≤ x ∧ x < W.heap.size) → (∀ j d, j < m → slotE D T j = some d → fs.getD j anyFact (a.eval (.tmp d)) (Zs j) W) → Q .normal a W) l 0 []) : (Code.region id l.toArray true).wp P Q a0 w := by
  subst hl
  refine region_tail D T n l.length hm hB hz0 hf0 ?_
  rw [List.take_length, List.drop_length]
  exact h

/-- A slot's value as the walk looks it up. -/
theorem ev_get {n k : Nat} {a : Act} {v : Value} (hs : a.tmps.size = n) (h : a.eval (.tmp k) = v) (hk : k < n := by decide) : a.tmps[k]? = some v := by
  have hlt : k < a.tmps.size := by omega
  rw [← h]
  simp [Act.eval, hlt]

end Go.Proofs.YtkflijbhlibadabDoor
