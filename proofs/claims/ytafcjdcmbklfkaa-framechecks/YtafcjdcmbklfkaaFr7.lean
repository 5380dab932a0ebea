/-
  Contracts of plaitingref5, sixth part: frames of texts.
-/
import Derived.Test.YtafcjdcmbklfkaaOwn2
namespace Go.Proofs.Ytafcjdcmbklfkaa
open Go.RowKit Plait
set_option linter.unusedVariables false

/-- What a call answers that reads a frame. -/
def ReadRet (p : Fr × Int) (w : World) (e : Ending) (w' : World) : Prop :=
  ∃ (a : Option Addr) (cap : Nat), e = .returned (.tuple #[.agg #[.int .i64 p.1.K, .int .i64 p.1.R, .int .i64 p.1.S, .int .i64 p.1.P.K, .int .i64 p.1.P.V, .slice a p.1.E.length cap], .int .i64 p.2]) ∧ RowT w' a p.1.E ∧ (∀ x, a = some x → w.heap.size ≤ x.block) ∧ Below w.heap.size w w'

/-- An empty frame's box. -/
def zeroBox : Array Value := #[.int .i64 0, .int .i64 0, .int .i64 0, .int .i64 0, .int .i64 0, .slice none 0 0]

theorem open_len (l : List UInt8) : (openP l).1.length ≤ l.length := by
  unfold openP
  split
  · simp
  · split
    · simp
    · split
      · show (l.take _).length ≤ _
        rw [List.length_take]; omega
      · simp

/-- Read's last step: the frame is laid into the result's place. -/
theorem read_end (f : Fr) (er : Int) (w wr : World) (av : Option Addr) (cv : Nat) (hB : Below w.heap.size w wr) (k2 : Blk wr (w.heap.size + 1) 29 zeroBox)
    (hown : OwnT (w.heap.size + 2) wr (.slice av f.E.length cv) f.E) (hl : f.E.length ≤ 1000000) (hz : ∀ t ∈ f.E, inI t.K ∧ inI t.V) {p : Fr × Int} (hp : p = (f, er)) {a : Act}
    (h4 : a.tmps[4]? = some (.pointer (some ⟨w.heap.size + 1, 0, none⟩)) := by rfl) (h5 : a.tmps[5]? = some (.int .i64 er) := by rfl) (hd : a.defers = [] := by rfl) :
    bodyPost Try.prog Try.f30 (ReadRet p w) Exit.ret a
      ((((((wr.setCell ⟨w.heap.size + 1, 0, none⟩ (.int .i64 f.K)).setCell ⟨w.heap.size + 1, 1, none⟩ (.int .i64 f.R)).setCell ⟨w.heap.size + 1, 2, none⟩ (.int .i64 f.S)).setCell
        ⟨w.heap.size + 1, 3, none⟩ (.int .i64 f.P.K)).setCell ⟨w.heap.size + 1, 4, none⟩ (.int .i64 f.P.V)).setCell ⟨w.heap.size + 1, 5, none⟩ (.slice av f.E.length cv)) := by
  subst hp
  unfold zeroBox at k2
  have kk := ((((((k2.set 0 (.int .i64 f.K)).set 1 (.int .i64 f.R)).set 2 (.int .i64 f.S)).set 3 (.int .i64 f.P.K)).set 4 (.int .i64 f.P.V)).set 5 (.slice av f.E.length cv))
  have hb2 := (((((hB.setCell (p := ⟨w.heap.size + 1, 0, none⟩) (by simp) (.int .i64 f.K)).setCell (p := ⟨w.heap.size + 1, 1, none⟩) (by simp) (.int .i64 f.R)).setCell (p := ⟨w.heap.size + 1, 2, none⟩) (by simp) (.int .i64 f.S)).setCell
    (p := ⟨w.heap.size + 1, 3, none⟩) (by simp) (.int .i64 f.P.K)).setCell (p := ⟨w.heap.size + 1, 4, none⟩) (by simp) (.int .i64 f.P.V)).setCell (p := ⟨w.heap.size + 1, 5, none⟩) (by simp) (.slice av f.E.length cv)
  have ho := (((((hown.far ⟨w.heap.size + 1, 0, none⟩ (.int .i64 f.K) (by simp)).far ⟨w.heap.size + 1, 1, none⟩ (.int .i64 f.R) (by simp)).far ⟨w.heap.size + 1, 2, none⟩ (.int .i64 f.S) (by simp)).far
    ⟨w.heap.size + 1, 3, none⟩ (.int .i64 f.P.K) (by simp)).far ⟨w.heap.size + 1, 4, none⟩ (.int .i64 f.P.V) (by simp)).far ⟨w.heap.size + 1, 5, none⟩ (.slice av f.E.length cv) (by simp)
  generalize (((((wr.setCell _ _).setCell _ _).setCell _ _).setCell _ _).setCell _ _).setCell _ _ = W at *
  have q := kk.at
  simp at q
  refine bodyPost_ret (v := .tuple #[.agg #[.int .i64 f.K, .int .i64 f.R, .int .i64 f.S, .int .i64 f.P.K, .int .i64 f.P.V, .slice av f.E.length cv], .int .i64 er]) (by simp [results, Try.results30, go_sem, h4, h5, q]) hd ⟨av, cv, rfl, ho.row (by omega) hz, ?_, hb2⟩
  intro x hx
  have := (ho.lt x.block (by rw [hx]; rfl)).1
  omega

theorem itsOf_succ (l : List UInt8) (k : Nat) : itsOf l (k + 1) = itsOf l k ++ [itOf ((l.drop (10 * k)).take 10)] := by simp [itsOf, List.range_succ]
theorem itsOf_len (l : List UInt8) (k : Nat) : (itsOf l k).length = k := by simp [itsOf]
theorem itOf_in (l : List UInt8) : inI (itOf l).K ∧ inI (itOf l).V := by
  have h1 := num0_range (l.take 2) 2 (by rw [List.length_take]; omega)
  have h2 := num0_range ((l.drop 2).take 8) 8 (by rw [List.length_take]; omega)
  unfold itOf inI
  simp only
  omega
theorem itsOf_in (l : List UInt8) (k : Nat) : ∀ t ∈ itsOf l k, inI t.K ∧ inI t.V := by
  intro t ht
  unfold itsOf at ht
  rw [List.mem_map] at ht
  obtain ⟨i, _, rfl⟩ := ht
  exact itOf_in _

theorem readF_err (c : Cf) (l b : List UInt8) (e : Int) (h : openP l = (b, e)) (he : e ≠ 0) : readF c l = (zeroF, e) := by unfold readF; rw [h]; simp [he]
theorem readF_ok (c : Cf) (l b : List UInt8) (h : openP l = (b, 0)) : readF c l = readB c b := by unfold readF; rw [h]; simp
theorem readB_cut (c : Cf) (b : List UInt8) (h : b.length < 34) : readB c b = (zeroF, 3) := by unfold readB; rw [if_pos h]
theorem readB_long (c : Cf) (b : List UInt8) (h : ¬ b.length < 34) (h2 : (b.length : Int) - 34 ≠ 10 * echoI c (frOf b).K (frOf b).S) : readB c b = (zeroF, 2) := by unfold readB; rw [if_neg h, if_pos h2]
theorem readB_check (c : Cf) (b : List UInt8) (h : ¬ b.length < 34) (h2 : (b.length : Int) - 34 = 10 * echoI c (frOf b).K (frOf b).S) (e : Int) (he : checkF c ((frOf b).with (itsOf (b.drop 34) ((b.length - 34) / 10))) = e) (h3 : e ≠ 0) : readB c b = (zeroF, e) := by
  unfold readB
  rw [if_neg h, if_neg (by omega), he, if_pos h3]
theorem readB_ok (c : Cf) (b : List UInt8) (h : ¬ b.length < 34) (h2 : (b.length : Int) - 34 = 10 * echoI c (frOf b).K (frOf b).S) (he : checkF c ((frOf b).with (itsOf (b.drop 34) ((b.length - 34) / 10))) = 0) : readB c b = ((frOf b).with (itsOf (b.drop 34) ((b.length - 34) / 10)), 0) := by
  unfold readB
  rw [if_neg h, if_neg (by omega), he, if_neg (by simp)]

/-- Where the frame that is read stands, boxed at g. -/
def ReadG (c : Cf) (ca : Option Addr) (cc : Nat) (K R S PK PV : Int) (w : World) (g : Nat) (v : Value) (wx : World) : Prop :=
  Below w.heap.size w wx ∧ Blk wx w.heap.size 24 (confBox c ca cc) ∧ Blk wx (w.heap.size + 1) 29 zeroBox ∧ w.heap.size + 1 < g ∧
    Blk wx g 29 #[.int .i64 K, .int .i64 R, .int .i64 S, .int .i64 PK, .int .i64 PV, v]

/-- What holds on while the frame's parts are read. -/
def HeldR (c : Cf) (ca : Option Addr) (cc : Nat) (w W : World) : Prop := Below w.heap.size w W ∧ Blk W w.heap.size 24 (confBox c ca cc) ∧ Blk W (w.heap.size + 1) 29 zeroBox
theorem HeldR.next {c : Cf} {ca : Option Addr} {cc : Nat} {w W W' : World} (h : HeldR c ca cc w W) (hb : Below W.heap.size W W') : HeldR c ca cc w W' := ⟨h.1.trans (hb.mono h.1.size), h.2.1.later hb, h.2.2.later hb⟩

theorem HeldR.set {c : Cf} {ca : Option Addr} {cc : Nat} {w W : World} (h : HeldR c ca cc w W) {g : Nat} (hg : w.heap.size + 1 < g) (k : Nat) (u : Value) : HeldR c ca cc w (W.setCell ⟨g, k, none⟩ u) :=
  ⟨h.1.setCell (by show w.heap.size ≤ g; omega) u, h.2.1.far (by show w.heap.size ≠ g; omega) u, h.2.2.far (by show w.heap.size + 1 ≠ g; omega) u⟩

theorem readG_alloc {c : Cf} {ca : Option Addr} {cc : Nat} {w wn wm : World} (K R S PK PV : Int) (h : HeldR c ca cc w wn) (hb : Below wn.drew.heap.size wn.drew wm) :
    ReadG c ca cc K R S PK PV w wm.heap.size (.slice none 0 0) (wm.alloc (.cells #[.int .i64 K, .int .i64 R, .int .i64 S, .int .i64 PK, .int .i64 PV, .slice none 0 0] 29)) := by
  have h2 := (h.next (Below.refl _ wn).drew).next hb
  exact ⟨h2.1.alloc h2.1.size _, h2.2.1.alloc _, h2.2.2.alloc _, h2.2.2.lt, Blk.new wm _ _⟩

theorem readG_set {c : Cf} {ca : Option Addr} {cc : Nat} {w wn wm : World} (K R S PK PV : Int) (h : HeldR c ca cc w wn) (hb : Below (wn.alloc (.cells zeroBox 29)).drew.heap.size (wn.alloc (.cells zeroBox 29)).drew wm) (hx : Blk wm wn.heap.size 29 zeroBox) :
    ReadG c ca cc K R S PK PV w wn.heap.size (.slice none 0 0) ((((((wm.setCell ⟨wn.heap.size, 0, none⟩ (.int .i64 K)).setCell ⟨wn.heap.size, 1, none⟩ (.int .i64 R)).setCell ⟨wn.heap.size, 2, none⟩ (.int .i64 S)).setCell
        ⟨wn.heap.size, 3, none⟩ (.int .i64 PK)).setCell ⟨wn.heap.size, 4, none⟩ (.int .i64 PV)).setCell ⟨wn.heap.size, 5, none⟩ (.slice none 0 0)) := by
  have hg := h.2.2.lt
  have h2 := ((h.next (alloc_below wn _)).next (Below.refl _ _).drew).next hb
  have h3 := ((((((h2.set hg 0 (.int .i64 K)).set hg 1 (.int .i64 R)).set hg 2 (.int .i64 S)).set hg 3 (.int .i64 PK)).set hg 4 (.int .i64 PV)).set hg 5 (.slice none 0 0))
  exact ⟨h3.1, h3.2.1, h3.2.2, hg, ((((((hx.set 0 (.int .i64 K)).set 1 (.int .i64 R)).set 2 (.int .i64 S)).set 3 (.int .i64 PK)).set 4 (.int .i64 PV)).set 5 (.slice none 0 0))⟩

/-- The loop over the items. -/
def ReadAt (c : Cf) (ca : Option Addr) (cc : Nat) (K R S PK PV : Int) (b : List UInt8) (w : World) (g : Nat) (i : Value) (wx : World) : Prop :=
  ∃ (k p : Nat) (v : Value), p = 34 + 10 * k ∧ p ≤ b.length ∧ i = .int .i64 p ∧ ReadG c ca cc K R S PK PV w g v wx ∧ OwnT (g + 1) wx v (itsOf (b.drop 34) k)

attribute [local irreducible] num0 itOf

set_option maxHeartbeats 6400000 in
theorem rRead_any (c : Cf) (ca : Option Addr) (cc : Nat) (l : List UInt8) (w : World) (hc : c.Ok) (hrow : Row w ca c.P) (hs : l.length ≤ 1048576) :
    Calls Try.prog 30 #[.agg #[.int .i64 c.N, .int .i64 c.Pi, .int .i64 c.E, .int .i64 c.G, .int .i64 c.F, .slice ca c.P.length cc], .string ⟨l.toArray⟩] w (ReadRet (readF c l) w) := by
  obtain ⟨b, er, hbe⟩ : ∃ b e, openP l = (b, e) := ⟨_, _, rfl⟩
  have hbl := open_len l
  rw [hbe] at hbl
  simp only at hbl
  have HO := Lib.hid (fun W => ropen_any l W hs)
  have HQ := Lib.hid (show openR l = .tuple #[.string ⟨b.toArray⟩, .int .i64 er] by unfold openR; rw [hbe])
  rw [HQ.out] at HO
  have hB0 : Below w.heap.size w ((w.alloc (.cells #[.int .i64 c.N, .int .i64 c.Pi, .int .i64 c.E, .int .i64 c.G, .int .i64 c.F, .slice ca c.P.length cc] 24)).alloc (.cells zeroBox 29)) := (alloc_below w _).alloc (by simp) _
  have hC0 : Blk ((w.alloc (.cells #[.int .i64 c.N, .int .i64 c.Pi, .int .i64 c.E, .int .i64 c.G, .int .i64 c.F, .slice ca c.P.length cc] 24)).alloc (.cells zeroBox 29)) w.heap.size 24 (confBox c ca cc) := (Blk.new w _ _).alloc _
  have hZ0 : Blk ((w.alloc (.cells #[.int .i64 c.N, .int .i64 c.Pi, .int .i64 c.E, .int .i64 c.G, .int .i64 c.F, .slice ca c.P.length cc] 24)).alloc (.cells zeroBox 29)) (w.heap.size + 1) 29 zeroBox := Blk.newAt _ _ (by simp)
  by_cases he : er = 0
  · subst he
    have HR := Lib.hid (readF_ok c l b hbe)
    clear hbe HQ
    by_cases h34 : b.length < 34
    · have HF := Lib.hid (show readF c l = (zeroF, 3) by rw [HR.out, readB_cut c b h34])
      have d1 : decide ((b.length : Int) < 34) = true := by simp; omega
      go_enter Try.func30, Try.ntmps30
      go_wp2_with fail
      refine (HO.out _).mono ?_
      rintro e wn ⟨rfl, hb⟩
      have hB := hB0.trans (hb.mono hB0.size)
      have hZ := hZ0.later hb
      have hQ := hZ.at
      have hF := hZ.frozen
      unfold zeroBox at hQ
      go_wp2
      exact read_end zeroF 3 w wn none 0 hB hZ (OwnT.nil _ _) (by decide) (fun t ht => by simp [zeroF] at ht) HF.out
    · have h34' : (34 : Int) ≤ (b.length : Int) := by omega
      have d1 : decide ((b.length : Int) < 34) = false := by simp; omega
      go_enter Try.func30, Try.ntmps30
      go_wp2_with fail
      refine (HO.out _).mono ?_
      rintro e wn ⟨rfl, hb⟩
      have hH : HeldR c ca cc w wn := HeldR.next ⟨hB0, hC0, hZ0⟩ hb
      clear hb hB0 hC0 hZ0 HO
      go_upto_region 6 with fail
      go_cut [8] (fun s8 wx => ∃ g, s8 = .pointer (some ⟨g, 0, none⟩) ∧ ReadG c ca cc (num0 (b.take 2)) (num0 ((b.drop 2).take 16)) (num0 ((b.drop 18).take 6)) (itOf ((b.drop 24).take 10)).K (itOf ((b.drop 24).take 10)).V w g (.slice none 0 0) wx)
      case first =>
        have s1 : (2 : Int) ≤ (b.length : Int) := by omega
        have s2 : (18 : Int) ≤ (b.length : Int) := by omega
        have s3 : (24 : Int) ≤ (b.length : Int) := by omega
        have hg := hH.2.2.lt
        go_region_held3 (fun W => True) (trivial)
          (first
          | (go_at_call 58; refine (rnumber_any _ _ ?_).mono ?_; (simp; omega); rintro e wl ⟨rfl, rfl⟩)
          | (go_at_call 59; refine (rread_any _ _ ?_ ?_).mono ?_; (simp; omega); (simp; omega); rintro e wm ⟨rfl, hbm⟩; (try have hx := (Blk.drew1 (Blk.new wn 29 zeroBox)).later hbm); (try have hxq := hx.at); (try have hxf := hx.frozen); (try unfold zeroBox at hxq)))
        all_goals go_wp2_with fail
        all_goals go_meet
        all_goals refine ⟨_, rfl, ?_⟩
        all_goals first
          | (have hx2 := hx; exact readG_set _ _ _ _ _ hH hbm hx2)
          | exact readG_alloc _ _ _ _ _ hH hbm
      case rest =>
        obtain ⟨g, rfl, hG⟩ := hcut
        clear hH
        have HFr := Lib.hid (show frOf b = ⟨num0 (b.take 2), num0 ((b.drop 2).take 16), num0 ((b.drop 18).take 6), itOf ((b.drop 24).take 10), []⟩ from rfl)
        generalize num0 (b.take 2) = fK at *
        generalize num0 ((b.drop 2).take 16) = fR at *
        generalize num0 ((b.drop 18).take 6) = fS at *
        generalize itOf ((b.drop 24).take 10) = ft at *
        have HL := Lib.hid (show (b.length : Int) - 34 ≠ 10 * echoI c fK fS → readF c l = (zeroF, 2) from fun h => by rw [HR.out]; exact readB_long c b h34 (by rw [HFr.out]; exact h))
        have HC := Lib.hid (show ∀ e, (b.length : Int) - 34 = 10 * echoI c fK fS → checkF c ⟨fK, fR, fS, ft, itsOf (b.drop 34) ((b.length - 34) / 10)⟩ = e → e ≠ 0 → readF c l = (zeroF, e) from fun e h h2 h3 => by
          rw [HR.out]; exact readB_check c b h34 (by rw [HFr.out]; exact h) e (by rw [HFr.out]; exact h2) h3)
        have HK := Lib.hid (show (b.length : Int) - 34 = 10 * echoI c fK fS → checkF c ⟨fK, fR, fS, ft, itsOf (b.drop 34) ((b.length - 34) / 10)⟩ = 0 → readF c l = (⟨fK, fR, fS, ft, itsOf (b.drop 34) ((b.length - 34) / 10)⟩, 0) from fun h h2 => by
          rw [HR.out, readB_ok c b h34 (by rw [HFr.out]; exact h) (by rw [HFr.out]; exact h2), HFr.out]; rfl)
        clear HFr HR
        obtain ⟨hB, hC, hZ, hgt, hg⟩ := hG
        have q1 := hC.at
        unfold confBox at q1
        have q3 := hg.at
        have he : 0 ≤ echoI c fK fS ∧ echoI c fK fS ≤ 15 := by
          have := hc.n6; have := hc.n12; have := hc.len
          unfold echoI slotsI
          split <;> omega
        obtain ⟨he0, he1⟩ := he
        go_wp2_with fail
        refine (rechoes_any c ca cc _ _ _ hc).mono ?_
        rintro e wm ⟨rfl, hb⟩
        replace hB := hB.trans (hb.mono hB.size)
        replace hC := hC.later hb
        replace hZ := hZ.later hb
        replace hg := hg.later hb
        clear hb q1 q3
        generalize echoI c fK fS = en at *
        by_cases hL : (b.length : Int) - 34 = 10 * en
        · have d2 : ((b.length : Int) - 34 != 10 * en) = false := by simpa using hL
          replace HC := Lib.hid (fun e => HC.out e hL)
          replace HK := Lib.hid (HK.out hL)
          clear HL
          have hmod : ∃ q : Nat, b.length = 34 + 10 * q ∧ (b.length - 34) / 10 = q := ⟨(b.length - 34) / 10, by omega, rfl⟩
          obtain ⟨q, hq, hq2⟩ := hmod
          rw [hq2] at HC HK
          have Hq := Lib.hid hq
          have hlb : b.length ≤ 184 := by omega
          clear hL hq hq2
          go_wp2
          go_loopw [9] (fun i w' => ReadAt c ca cc fK fR fS ft.K ft.V b w g i w') (fun i _ => b.length - (intOf i).toNat)
          case atStart => exact ⟨0, 34, _, rfl, by omega, rfl, ⟨hB, hC, hZ, hgt, hg⟩, OwnT.nil _ _⟩
          case round =>
            clear hB hC hZ hg
            obtain ⟨k, p, v, hp, hpl, rfl, ⟨hB, hC, hZ, _, hg⟩, hown⟩ := hrel
            have Hp := Lib.hid hp
            clear hp
            have q3 := hg.at
            have f3 := hg.frozen
            by_cases hlt : p < b.length
            · have dk : decide (p < b.length) = true := by simpa using hlt
              have hp10 : p + 10 ≤ b.length := by have := Hp.out; have := Hq.out; omega
              have HS := Lib.hid (show itsOf (b.drop 34) (k + 1) = itsOf (b.drop 34) k ++ [itOf ((b.drop p).take 10)] by rw [itsOf_succ, List.drop_drop, Hp.out])
              have hll : (itsOf (b.drop 34) k).length ≤ 1000 := by rw [itsOf_len]; have := Hp.out; omega
              have g0 : (0 : Int) ≤ (p : Int) := by omega
              have g1 : (p : Int) + 10 ≤ (b.length : Int) := by omega
              have z0 : IntKind.i64.wrap ((p : Int) + 10) = (p : Int) + 10 := wrap_in _ (by omega) (by omega)
              have z1 : (0 : Int) ≤ (p : Int) + 10 := by omega
              have z2 : (p : Int) ≤ (p : Int) + 10 := by omega
              have z3 : ((p : Int) + 10).toNat - p = 10 := by omega
              have HR2 := Lib.hid (fun W => rread_any ((b.drop p).take 10) W (by simp; omega) (by simp; omega))
              generalize itsOf (b.drop 34) k = TS at *
              generalize itOf ((b.drop p).take 10) = t at *
              obtain ⟨av, cv, rfl⟩ := hown.form
              have hol := hown.lt
              have hglt := hg.lt
              have hsz := hB.size
              go_wp2_with fail
              go_region_law (first
                | (refine step_appT _ (by rfl) (.tmp 55) (.tmp 62) (by rfl) (g + 1) (.slice av TS.length cv) TS (by simp [Act.eval]) (hown.later (((Below.refl _ wr).drew.trans hb).alloc hb.size _)) wl.heap.size 1 t (by simp [Act.eval]) (heap_alloc_new _ _) (by omega) (by have h0 : wr.heap.size ≤ wl.heap.size := hb.size; simp; omega) ?_; intro g' cap' w2 h1' h2' h3' h4'; have k3w := (Blk.alloc k3l (.cells #[.int .i64 t.K, .int .i64 t.V] 26)).grown h2' (fun e => by have := (hol _ e.symm).1; omega); have q3w := k3w.at 5; have f3w := k3w.frozen 5)
                | (go_simp; go_at_call 59; refine (HR2.out _).mono ?_; rintro e wl ⟨rfl, hb⟩; have k3l := (Blk.drew1 hg).later hb; have q3l := k3l.at 5; have q3m := fun o : Obj => (k3l.alloc o).at 5))
              all_goals
                have hG : ∀ g', (Value.slice av TS.length cv).ownBlock = some g' → w.heap.size ≤ g' := fun g' hg' => by have := (hol g' hg').1; omega
                have h0 : wr.heap.size ≤ wl.heap.size := hb.size
                go_wp2
                go_roundw
                case rel =>
                  refine ⟨k + 1, p + 10, _, by have := Hp.out; omega, hp10, by go_num, ⟨?_, ?_, ?_, hgt, k3w.set 5 _⟩, ?_⟩
                  · exact (below_grown (((hB.drew.trans (hb.mono hsz))).alloc (by omega) _) (by simp; omega) h2' hG).setCell (by show w.heap.size ≤ g; omega) _
                  · exact ((Blk.alloc ((Blk.drew1 hC).later hb) _).grown h2' (fun e => by have := (hol _ e.symm).1; omega)).far (by show w.heap.size ≠ g; omega) _
                  · exact ((Blk.alloc ((Blk.drew1 hZ).later hb) _).grown h2' (fun e => by have := (hol _ e.symm).1; omega)).far (by show w.heap.size + 1 ≠ g; omega) _
                  · rw [HS.out]
                    exact h1'.far ⟨g, 5, none⟩ _ (by simp)
                case measure => simp [intOf]; omega
            · have dk : decide (p < b.length) = false := by simpa using hlt
              have hkq : k = q := by have := Hp.out; have := Hq.out; omega
              subst hkq
              have hq5 : k ≤ 15 := by have := Hq.out; omega
              have hin := itsOf_in (b.drop 34) k
              have hll : (itsOf (b.drop 34) k).length ≤ 1000000 := by rw [itsOf_len]; omega
              generalize itsOf (b.drop 34) k = TS at *
              obtain ⟨av, cv, rfl⟩ := hown.form
              have q1 := hC.at
              unfold confBox at q1
              have hrT := hown.row (by omega) hin
              have HCk := Lib.hid (fun W (h : RowT W av TS) => rCheck5_any c ca cc ⟨fK, fR, fS, ft, TS⟩ av cv W hc h)
              cases hce : (checkF c ⟨fK, fR, fS, ft, TS⟩ == 0)
              · have hce' : checkF c ⟨fK, fR, fS, ft, TS⟩ ≠ 0 := by simpa using hce
                have HF := Lib.hid (HC.out _ rfl hce')
                have d3 : (checkF c ⟨fK, fR, fS, ft, TS⟩ != 0) = true := by rw [bne, hce]; rfl
                clear hce hce' HC HK
                generalize checkF c ⟨fK, fR, fS, ft, TS⟩ = er at *
                go_wp2_with fail
                refine (HCk.out _ hrT).mono ?_
                rintro e wq ⟨rfl, hb⟩
                replace hB := hB.trans (hb.mono hB.size)
                replace hZ := hZ.later hb
                have hQ := hZ.at
                have hF := hZ.frozen
                unfold zeroBox at hQ
                clear q1 q3 f3
                go_wp2
                exact read_end zeroF er w wq none 0 hB hZ (OwnT.nil _ _) (by decide) (fun t ht => by simp [zeroF] at ht) HF.out
              · have hce' : checkF c ⟨fK, fR, fS, ft, TS⟩ = 0 := by simpa using hce
                have HF := Lib.hid (HK.out hce')
                rw [hce'] at HCk
                clear hce hce' HC HK
                have hown2 : OwnT (w.heap.size + 2) wr (.slice av TS.length cv) TS := by
                  refine ⟨hown.1, ?_⟩
                  rcases hown.2 with h | ⟨g', cap', cur, h1, h2, h3⟩
                  · exact .inl h
                  · exact .inr ⟨g', cap', cur, h1, by omega, h3⟩
                go_wp2_with fail
                refine (HCk.out _ hrT).mono ?_
                rintro e wq ⟨rfl, hb⟩
                replace hB := hB.trans (hb.mono hB.size)
                replace hZ := hZ.later hb
                replace hg := hg.later hb
                have hown3 := hown2.later hb
                have hQ := hZ.at
                have hF := hZ.frozen
                unfold zeroBox at hQ
                clear q1 q3 f3
                have q3 := hg.at
                go_wp2
                exact read_end ⟨fK, fR, fS, ft, TS⟩ 0 w wq av cv hB hZ hown3 (by omega) hin HF.out
        · have d2 : ((b.length : Int) - 34 != 10 * en) = true := by simpa using hL
          have HF := Lib.hid (HL.out hL)
          have hQ := hZ.at
          have hF := hZ.frozen
          unfold zeroBox at hQ
          go_wp2
          exact read_end zeroF 2 w wm none 0 hB hZ (OwnT.nil _ _) (by decide) (fun t ht => by simp [zeroF] at ht) HF.out
  · have HF := Lib.hid (readF_err c l b er hbe he)
    have d1 : (er != 0) = true := by simpa using he
    clear he hbe HQ
    go_enter Try.func30, Try.ntmps30
    go_wp2_with fail
    refine (HO.out _).mono ?_
    rintro e wn ⟨rfl, hb⟩
    have hB := hB0.trans (hb.mono hB0.size)
    have hZ := hZ0.later hb
    have hQ := hZ.at
    have hF := hZ.frozen
    unfold zeroBox at hQ
    go_wp2
    exact read_end zeroF er w wn none 0 hB hZ (OwnT.nil _ _) (by decide) (fun t ht => by simp [zeroF] at ht) HF.out

end Go.Proofs.Ytafcjdcmbklfkaa
