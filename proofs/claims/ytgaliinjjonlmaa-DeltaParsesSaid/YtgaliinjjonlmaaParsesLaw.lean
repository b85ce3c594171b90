/-
  The Go function leakresponselaw12.DeltaParses returns true for every list of numbers, all bytes, every place and every byte, and leaves what was there as it was; no conditions.
-/
import Derived.Test.YtgaliinjjonlmaaDtPr5
import Derived.Test.YtgaliinjjonlmaaDtSm
import Derived.Test.YtgaliinjjonlmaaDtKeep
import Derived.Deep.RegionHeld3
import Derived.Test.YtgaliinjjonlmaaDtWh
import Derived.Test.YtgaliinjjonlmaaRows
import Derived.WalkKit
import Derived.ProofKit
import Derived.OpenShut
import Derived.ShutString
import Derived.ChangeOld
import Derived.Below
namespace Go.Proofs.Ytgaliinjjonlmaa.deltaParses
open Go.ChangeShapes Go.WideShapes Go.ChangeAt Go.RowKit
open Go.ChangeMaps (open_string shut_string)
open Go.Proofs.Ytgaliinjjonlmaa.Tp
open Go.Proofs.Ytgaliinjjonlmaa.Dt
set_option linter.unusedVariables false

theorem and_255 (n : Int) : bits .and .i64 n 255 = n % 256 := by
  have h127 : (BitVec.ofInt 64 255).toNat = 2 ^ 8 - 1 := by decide
  have key : (BitVec.ofInt 64 n &&& BitVec.ofInt 64 255).toNat = (n % ((2 ^ 64 : Nat) : Int)).toNat % 2 ^ 8 := by
    rw [BitVec.toNat_and, BitVec.toNat_ofInt, h127, Nat.and_two_pow_sub_one_eq_mod]
  show IntKind.i64.wrap ((BitVec.ofInt 64 n &&& BitVec.ofInt 64 255).toNat : Nat) = n % 256
  rw [key, IntKind.wrap_i64]
  omega

theorem and_7 (n : Int) : bits .and .u8 n 7 = n % 8 := by
  have h127 : (BitVec.ofInt 8 7).toNat = 2 ^ 3 - 1 := by decide
  have key : (BitVec.ofInt 8 n &&& BitVec.ofInt 8 7).toNat = (n % ((2 ^ 8 : Nat) : Int)).toNat % 2 ^ 3 := by
    rw [BitVec.toNat_and, BitVec.toNat_ofInt, h127, Nat.and_two_pow_sub_one_eq_mod]
  show IntKind.u8.wrap ((BitVec.ofInt 8 n &&& BitVec.ofInt 8 7).toNat : Nat) = n % 8
  rw [key, IntKind.wrap_u8]
  omega

/-- A made operation is good. -/
theorem fit_good {w : World} {N : Nat} {p : O × Value} (h : Fit N p) (hN : N ≤ 60) (hb : By w p.2 p.1.d) : good p.1 = true ∧ p.1.d.length ≤ 70 := by
  obtain ⟨⟨F, S, d⟩, v⟩ := p
  obtain ⟨hv, hc⟩ := h
  have ho := vo_ok hv hb
  simp only [OkO] at ho
  simp only [cnt] at hc
  simp only [good, Bool.or_eq_true, decide_eq_true_eq]
  rcases ho with ⟨h1, h2, h3⟩ | ⟨h1, h2, h3, h4⟩
  · rw [if_neg (by omega)] at hc
    exact ⟨.inr ⟨h2, h1, h3⟩, hc⟩
  · subst h2
    exact ⟨.inl ⟨h1, by omega, by omega, rfl⟩, by simp⟩

/-- The bytes of made operations. -/
theorem made_fmt {w : World} {N : Nat} {ps : List (O × Value)} (hfit : ∀ p ∈ ps, Fit N p) (hN : N ≤ 60) (hby : ∀ p ∈ ps, By w p.2 p.1.d) (hl : ps.length ≤ 5) :
    fmtE ((ps.map (·.1)).map raw) ps.length = 0 ∧ (fmtB ((ps.map (·.1)).map raw) ps.length).length ≤ 400 ∧ dat ((ps.map (·.1)).map raw) ps.length ≤ 4000 := by
  have each : ∀ j, j < ps.length → ∃ p ∈ ps, ((ps.map (·.1)).map raw).getD j r0 = raw p.1 := fun j hj => ⟨ps[j], List.getElem_mem hj, by simp [List.getD_eq_getElem?_getD, hj]⟩
  have h1 : ∀ j, j < ps.length → lar (((ps.map (·.1)).map raw).getD j r0) = false ∧ bad (((ps.map (·.1)).map raw).getD j r0) = false ∧ (((ps.map (·.1)).map raw).getD j r0).d.length ≤ 70 := fun j hj => by
    obtain ⟨p, hp, e⟩ := each j hj
    obtain ⟨g1, g2⟩ := fit_good (hfit p hp) hN (hby p hp)
    rw [e]
    have := (good_iff (by omega)).1 g1
    exact ⟨this.1, this.2, g2⟩
  have h2 : ∀ n, n ≤ ps.length → dat ((ps.map (·.1)).map raw) n ≤ 70 * n := by
    intro n
    induction n with
    | zero => intro _; simp [dat]
    | succ n ih =>
      intro hn
      have := ih (by omega)
      have := (h1 n (by omega)).2.2
      simp only [dat]
      omega
  have h3 := h2 ps.length (Nat.le_refl _)
  have h4 := fmR_len ((ps.map (·.1)).map raw) ps.length
  have hE : fmtE ((ps.map (·.1)).map raw) ps.length = 0 := by
    unfold fmtE
    rw [if_neg (by omega), anyR_none (fun j hj => (h1 j hj).1), anyR_none (fun j hj => (h1 j hj).2.1)]
    rfl
  refine ⟨hE, ?_, by omega⟩
  rw [show fmtB ((ps.map (·.1)).map raw) ps.length = fmR ((ps.map (·.1)).map raw) ps.length from if_pos hE]
  omega

theorem fmtB_bytes {w : World} {A : Option Addr} {n : Nat} {rs : List R} {vs : List Value} (h : RLies w A n rs vs) : ∀ b ∈ fmtB rs n, b ≤ 255 := by
  have hn : ∀ k, ∀ b ∈ num k, b ≤ 255 := fun k b hb => by
    simp [num] at hb
    omega
  have hm : ∀ m, m ≤ n → ∀ b ∈ fmR rs m, b ≤ 255 := by
    intro m
    induction m with
    | zero => intro _ b hb; simp [fmR] at hb
    | succ m ih =>
      intro hm b hb
      rcases List.mem_append.1 hb with hb | hb
      · exact ih (by omega) b hb
      · unfold fmr at hb
        split at hb
        · rcases List.mem_append.1 hb with hb | hb
          · rcases List.mem_append.1 hb with hb | hb
            · simp at hb
              omega
            · exact hn _ b hb
          · exact hn _ b hb
        · rcases List.mem_append.1 hb with hb | hb
          · rcases List.mem_append.1 hb with hb | hb
            · simp at hb
              omega
            · exact hn _ b hb
          · exact (h.by_ m (by omega)).1 b hb
  intro b hb
  unfold fmtB at hb
  split at hb
  · exact hm n (Nat.le_refl _) b hb
  · simp at hb

theorem own_bel2 {w w' : World} {B e s k : Nat} {v : Value} {xs : List Value} (h : w.ownsRow B e s v k xs) (hb : Below w.heap.size w w') : w'.ownsRow B e s v k xs := own_bel h hb

/-- A row of bytes of the five. -/
def BaseAt (w : World) (H i : Nat) : Prop := ∃ (A : Option Addr) (n c : Nat) (bs : List Nat), w.cell? ⟨H, i, none⟩ = some (.slice A n c) ∧ By w (.slice A n c) bs ∧ bs.length = n

theorem BaseAt.below {w w' : World} {H i : Nat} (h : BaseAt w H i) (hH : H < w.heap.size) (hb : Below w.heap.size w w') : BaseAt w' H i := by
  obtain ⟨A, n, c, bs, h1, h2, h3⟩ := h
  exact ⟨A, n, c, bs, (hb.cell (p := ⟨H, _, none⟩) hH).trans h1, h2.below hb, h3⟩

theorem bases_new {w : World} {A B C D E : Option Addr} {n1 n2 n3 n4 n5 c1 c2 c3 c4 c5 : Nat} {x1 x2 x3 x4 x5 : List Nat} (h1 : By w (.slice A n1 c1) x1) (h2 : By w (.slice B n2 c2) x2) (h3 : By w (.slice C n3 c3) x3) (h4 : By w (.slice D n4 c4) x4) (h5 : By w (.slice E n5 c5) x5)
    (l1 : x1.length = n1) (l2 : x2.length = n2) (l3 : x3.length = n3) (l4 : x4.length = n4) (l5 : x5.length = n5) (i : Nat) (hi : i < 5) : BaseAt (w.alloc (.cells #[.slice A n1 c1, .slice B n2 c2, .slice C n3 c3, .slice D n4 c4, .slice E n5 c5] 23)) w.heap.size i := by
  have hn := heap_alloc_new w (.cells #[.slice A n1 c1, .slice B n2 c2, .slice C n3 c3, .slice D n4 c4, .slice E n5 c5] 23)
  have hb := box_below w (.cells #[.slice A n1 c1, .slice B n2 c2, .slice C n3 c3, .slice D n4 c4, .slice E n5 c5] 23)
  rcases (by omega : i = 0 ∨ i = 1 ∨ i = 2 ∨ i = 3 ∨ i = 4) with rfl | rfl | rfl | rfl | rfl
  · exact ⟨A, n1, c1, x1, by rw [cell_of_row _ _ _ _ _ _ hn]; rfl, h1.below hb, l1⟩
  · exact ⟨B, n2, c2, x2, by rw [cell_of_row _ _ _ _ _ _ hn]; rfl, h2.below hb, l2⟩
  · exact ⟨C, n3, c3, x3, by rw [cell_of_row _ _ _ _ _ _ hn]; rfl, h3.below hb, l3⟩
  · exact ⟨D, n4, c4, x4, by rw [cell_of_row _ _ _ _ _ _ hn]; rfl, h4.below hb, l4⟩
  · exact ⟨E, n5, c5, x5, by rw [cell_of_row _ _ _ _ _ _ hn]; rfl, h5.below hb, l5⟩

theorem half_by {w : World} {O : Option Addr} {n co : Nat} {ob : List Nat} (h : By w (.slice O n co) ob) (hl : ob.length = n) : By w (.slice O (n / 2) co) (ob.take (n / 2)) := by
  refine ⟨fun b hb => h.1 b (List.mem_of_mem_take hb), ?_⟩
  have hlen : (ob.take (n / 2)).length = n / 2 := by simp; omega
  rcases h.2 with ⟨e, rfl⟩ | ⟨b, off, c, e, h1, h2, h3, h4⟩
  · cases e
    exact .inl ⟨rfl, rfl⟩
  · cases e
    refine .inr ⟨b, off, co, by rw [hlen], by rw [hlen]; omega, h2, h3, fun j hj => ?_⟩
    rw [hlen] at hj
    rw [h4 j (by omega)]
    have : j < ob.length := by omega
    simp [List.getD_eq_getElem?_getD, hj]

set_option maxRecDepth 100000 in
set_option maxHeartbeats 4000000 in
theorem walk (a0 : Option Addr) (len0 cap0 : Nat) (z0 : List Int) (a1 : Option Addr) (len1 cap1 : Nat) (b1 : List Nat) (a2 a3 : Int) (w : World) (w0 : IsRow .i64 w a0 len0 cap0 z0) (hx : By w (.slice a1 len1 cap1) b1) (hx1 : b1.length = len1) :
    Calls Try.prog 6 #[.slice a0 len0 cap0, .slice a1 len1 cap1, .int .i64 a2, .int .u8 a3] w fun e w' => e = .returned (.bool true) ∧ Below w.heap.size w w' := by
  have htp := tape_new w0
  have HTP := Lib.hid htp
  have HBX := Lib.hid (box_below w (.cells #[.slice a0 len0 cap0, .int .i64 0] 27))
  have HX := Lib.hid hx
  have HX1 := Lib.hid hx1
  clear w0 htp hx hx1
  go_enter Try.func6, Try.ntmps6
  go_wp2_with fail
  refine (ops_any w.heap.size 40 _ HTP.out (by simp) (by omega)).mono ?_
  rintro e w1 ⟨ps, v, rfl, hpl, hop⟩
  obtain ⟨A, ca, e, hol⟩ := olies_of hop.row hop.by_
  subst e
  obtain ⟨hE, hfl, hdat⟩ := made_fmt hop.fit (by omega) hop.by_ hpl
  have hbl1 : Below w.heap.size w w1 := HBX.out.grown hop.gr HBX.out.size (fun k e => by cases e; exact Nat.le_refl _)
  have HF := Lib.hid (refformat_all _ ps.length ca ((ps.map (·.1)).map raw) (ps.map (·.2)) w1 hol.raw (by omega) hdat)
  have HBY := Lib.hid (fmtB_bytes hol.raw)
  have HB1 := Lib.hid hbl1
  have HE := Lib.hid hE
  have HFL := Lib.hid hfl
  clear hop hol hE hfl hdat hbl1 HTP HBX
  go_wp2_with fail
  refine HF.out.mono ?_
  rintro e w2 ⟨v2, rfl, hrow2, hb2⟩
  rw [HE.out]
  obtain ⟨ob, hob⟩ : ∃ ob, fmtB ((ps.map (·.1)).map raw) ps.length = ob := ⟨_, rfl⟩
  rw [hob] at hrow2 HBY HFL
  have hby2 := (by_own hrow2 rfl HBY.out).1
  obtain ⟨O, co, e⟩ := hby2.form
  subst e
  obtain ⟨n1, hn1⟩ : ∃ n1, ob.length = n1 := ⟨_, rfl⟩
  have hn400 : n1 ≤ 400 := by rw [← hn1]; exact HFL.out
  rw [hn1] at hby2
  have HOB := Lib.hid hby2
  have HOLT : Hid (∀ b off n c, Value.slice O n1 co = .slice (some ⟨b, off, none⟩) n c → b < w2.heap.size) := Lib.hid (fun b off n c e => hby2.lt e)
  have HON := Lib.hid hn1
  have HB2 := Lib.hid (HB1.out.trans (hb2.mono HB1.out.size))
  rw [hn1]
  clear hrow2 hby2 hb2 hob hn1 HF HE HFL
  go_upto_region 6 with (at_builtin; refine append_by rfl (.tmp 30) (.tmp 31) rfl w2.heap.size (.slice (some ⟨w2.heap.size, 0, none⟩) 0 0) (.slice O n1 co) 0 [] ob rfl rfl (World.ownsRow_lit _ #[] 0 (Nat.le_refl _) (by unfold maxLen; omega) rfl) (HOB.out.below (box_below w2 _)) (by rw [HON.out]; omega) (by simp) ?_; intro v3 w3 hown3 hgr3; have HO3 := Lib.hid hown3; have HG3 := Lib.hid hgr3; clear hown3 hgr3)
  have hs2 := HB2.out.size
  have ho3 := HO3.out
  rw [List.nil_append, Nat.zero_add, HON.out] at ho3
  have hs3 := HG3.out.size
  simp at hs3
  have hb3 : Below w.heap.size w w3 := (HB2.out.trans ((box_below w2 _).mono HB2.out.size)).grown HG3.out (by simp; omega) (fun g e => by simp [Value.ownBlock] at e; omega)
  have hob3 : By w3 (.slice O n1 co) ob := (HOB.out.below (box_below w2 _)).grown HG3.out (fun b off n c e => by
    have := HOB.out.lt e
    simp [Value.ownBlock]
    omega)
  obtain ⟨hby3, hfar3⟩ := by_own ho3 HON.out HBY.out
  obtain ⟨D, cd, e⟩ := hby3.form
  rw [HON.out] at e
  subst e
  have HR3 := Lib.hid ho3
  have HB3 := Lib.hid hb3
  have HOB3 := Lib.hid hob3
  clear ho3 hb3 hob3 hby3 hfar3 HO3 HG3
  go_upto_if 35 with fail
  go_cut [12] from 33 to 44 (fun s12 wx => ∃ d' : List Nat, s12 = .slice D n1 cd ∧ d'.length = n1 ∧ (∀ b ∈ d', b ≤ 255) ∧ wx.ownsRow w2.heap.size 5 1 (.slice D n1 cd) n1 (u8s d') ∧ By wx (.slice O n1 co) ob ∧ Below w.heap.size w wx)
  case first =>
    by_cases h0 : 0 < n1
    · have h0i : (0 : Int) < (n1 : Int) := by omega
      obtain ⟨q, hq⟩ : ∃ q : Nat, (bits .and .i64 a2 255).tmod (n1 : Int) = (q : Int) ∧ q < n1 := by
        rw [and_255]
        have h1 : 0 ≤ a2 % 256 := Int.emod_nonneg _ (by decide)
        refine ⟨((a2 % 256) % (n1 : Int)).toNat, ?_, ?_⟩
        · rw [Int.tmod_eq_emod_of_nonneg h1, Int.toNat_of_nonneg (Int.emod_nonneg _ (by omega))]
        · have := Int.emod_lt_of_pos (a2 % 256) h0i
          have := Int.emod_nonneg (a2 % 256) (show (n1 : Int) ≠ 0 by omega)
          omega
      obtain ⟨hq1, hq2⟩ := hq
      obtain ⟨y, hy, hy2⟩ : ∃ y : Nat, bits .and .u8 a3 7 = (y : Int) ∧ y ≤ 255 := by
        rw [and_7]
        exact ⟨(a3 % 8).toNat, by omega, by omega⟩
      have hform : ∃ g, D = some ⟨g, 0, none⟩ ∧ w2.heap.size ≤ g := by
        rcases HR3.out.2 with ⟨e, h⟩ | ⟨g, cap, cur, e, hg, _⟩
        · omega
        · cases e
          exact ⟨g, rfl, hg⟩
      obtain ⟨g, rfl, hg⟩ := hform
      have f1 := HR3.out.frozenAt q
      have c1 : w3.cell? ⟨g, q, none⟩ = some (.int .u8 ((ob.getD q 0 : Nat) : Int)) := by
        rw [HR3.out.cellAt q (by omega)]
        have := HON.out
        simp [u8s, List.getD_eq_getElem?_getD, show q < ob.length by omega]
      have hst := HR3.out.stored q (.int .u8 (y : Int))
      have q0 : (0 : Int) ≤ (q : Int) := by omega
      have q1 : (q : Int) < (n1 : Int) := by omega
      have HQ1 := Lib.hid hq1
      have HY := Lib.hid hy
      have hu : u8s (ob.set q y) = (u8s ob).set q (.int .u8 (y : Int)) := by simp [u8s, List.map_set]
      have hrow4 : (w3.setCell ⟨g, q, none⟩ (.int .u8 (y : Int))).ownsRow w2.heap.size 5 1 (.slice (some ⟨g, 0, none⟩) n1 cd) n1 (u8s (ob.set q y)) := by rw [hu]; exact hst.1
      have hob4 : By (w3.setCell ⟨g, q, none⟩ (.int .u8 (y : Int))) (.slice O n1 co) ob := HOB3.out.grown hst.2 (fun b off n c e e2 => by
        have := HOB.out.lt e
        have := Option.some.inj e2
        omega)
      have hb4 : Below w.heap.size w (w3.setCell ⟨g, q, none⟩ (.int .u8 (y : Int))) := HB3.out.grown hst.2 HB3.out.size (fun k e => by cases e; omega)
      have hby4 : ∀ b ∈ ob.set q y, b ≤ 255 := fun b hb => by
        rcases List.mem_or_eq_of_mem_set hb with h | rfl
        · exact HBY.out b h
        · exact hy2
      have HR4 := Lib.hid hrow4
      have HOB4 := Lib.hid hob4
      have HB4 := Lib.hid hb4
      have HY4 := Lib.hid hby4
      clear hu hst hrow4 hob4 hb4 hby4
      go_wp2_with fail
      go_meet
      case rel => exact ⟨ob.set q y, rfl, by rw [List.length_set, HON.out], HY4.out, HR4.out, HOB4.out, HB4.out⟩
    · have h0i : ¬ (0 : Int) < (n1 : Int) := by omega
      go_wp2_with fail
      go_meet
      case rel => exact ⟨ob, rfl, HON.out, HBY.out, HR3.out, HOB3.out, HB3.out⟩
  case rest =>
  obtain ⟨d', rfl, hdl, hdb, hrow, hob, hbw⟩ := hcut
  have HDL := Lib.hid hdl
  have HDB := Lib.hid hdb
  have HROW := Lib.hid hrow
  have HOBW := Lib.hid hob
  have HBW := Lib.hid hbw
  clear hdl hdb hrow hob hbw HR3 HB3 HOB3 HOB HB2 HBY
  have hm : (n1 : Int).tdiv 2 = (n1 : Int) / 2 := Int.tdiv_eq_ediv_of_nonneg (by omega)
  have hm2 : ((n1 : Int) / 2).toNat = n1 / 2 := by omega
  have hm3 : IntKind.i64.wrap ((n1 : Int) / 2) = (n1 : Int) / 2 := by rw [IntKind.wrap_i64]; omega
  have hm4 : IntKind.i64.wrap ((n1 : Int).tdiv 2) = (n1 : Int) / 2 := by rw [hm, hm3]
  have hOc : n1 ≤ co := by
    rcases HOBW.out.2 with ⟨e, _⟩ | ⟨_, _, _, e, h1, _⟩
    · cases e
      exact Nat.le_refl _
    · cases e
      rw [HON.out] at h1
      exact h1
  have m0 : (0 : Int) ≤ (n1 : Int) / 2 := by omega
  have m1 : (n1 : Int) / 2 ≤ (co : Int) := by omega
  have g1 : Below w.heap.size w wc := HBW.out
  have g2 : Below w.heap.size w wc.drew := g1.drew
  have g3 : Below w.heap.size w (wc.alloc (.cells #[.int .u8 0] 5)) := g1.trans ((box_below wc _).mono g1.size)
  have g4 : Below w.heap.size w ((wc.alloc (.cells #[.int .u8 0] 5)).drew) := g3.drew
  have HRW := Lib.hid (own_bel HROW.out (box_below wc (.cells #[.int .u8 0] 5)).drew)
  have HGB := Lib.hid (heap_alloc_new wc (.cells #[.int .u8 0] 5))
  have HO8 := Lib.hid (HOBW.out.below (box_below wc (.cells #[.int .u8 0] 5)).drew)
  have hfarD : ∀ g, (Value.slice D n1 cd).ownBlock = some g → w2.heap.size ≤ g := fun g e => (HROW.out.lt g e).1
  have HFD := Lib.hid hfarD
  have hObs : ∀ b off n c, Value.slice O n1 co = .slice (some ⟨b, off, none⟩) n c → b < w2.heap.size := HOLT.out
  have HOLT2 := Lib.hid hObs
  have hOf : (O = none ∧ n1 = 0 ∧ co = 0) ∨ ∃ b off, O = some ⟨b, off, none⟩ := by
    rcases HOBW.out.2 with ⟨e, _⟩ | ⟨b, off, _, e, _, _⟩
    · cases e
      exact .inl ⟨rfl, rfl, rfl⟩
    · cases e
      exact .inr ⟨b, off, rfl⟩
  clear hfarD hObs
  go_upto_region 8 with fail
  go_cut [56, 57, 58] from 45 to 58 (fun s56 s57 s58 wx => ∃ H : Nat, s56 = .slice (some ⟨H, 0, none⟩) 5 5 ∧ s57 = .int .i64 5 ∧ s58 = .int .i64 0 ∧ H < wx.heap.size ∧ (∀ i, i < 5 → BaseAt wx H i) ∧ Below w.heap.size w wx)
  case first =>
    rcases hOf with ⟨rfl, rfl, rfl⟩ | ⟨b, off, rfl⟩
    · have hz0 : ((0 : Nat) : Int) = 0 := rfl
      have hz1 : (0 : Int).tdiv 2 = 0 := rfl
      have hz2 : (0 : Int) / 2 = 0 := rfl
      have hz3 : IntKind.i64.wrap 0 = 0 := rfl
      clear hm hm2 hm3 hm4 m0 m1
      go_wp2_with fail
      go_region_held3 (fun w' => Below w.heap.size w w' ∧ Below w.heap.size w w')
        (first | exact ⟨g1, g1⟩ | exact ⟨g2, g2⟩ | exact ⟨g3, g3⟩ | exact ⟨g4, g4⟩ | exact ⟨g7, g7⟩ | exact ⟨g7.alloc g7.size _, g7.alloc g7.size _⟩ | assumption)
        (first
          | (refine step_keep (by rfl) (.tmp 48) (.tmp 49) (by rfl) w2.heap.size D 0 cd d' (by rfl) wc.heap.size (by rfl) HRW.out HDL.out HDB.out HGB.out (by omega) ?_; intro B7 c7 w7 hnew hold hgr7; have g7 : Below w.heap.size w w7 := g4.grown hgr7 g4.size (fun k e => Nat.le_trans hs2 (HFD.out k e)); have HN7 := Lib.hid hnew; have HO7 := Lib.hid hold; have HOB7 := Lib.hid (HO8.out.grown hgr7 (fun b off n c e e2 => by have h1 := HOLT2.out b off n c e; have h2 := HFD.out b e2; omega)); clear hnew hold hgr7))
      go_wp2_with fail
      go_meet
      case rel =>
        have hbs := bases_new (HX.out.below g7) HOB7.out HO7.out HN7.out (half_by HOB7.out HON.out) HX1.out HON.out HDL.out (by rw [List.length_append, HDL.out]; rfl) (by rw [List.length_take, HON.out]; omega)
        exact ⟨w7.heap.size, rfl, rfl, rfl, by simp, hbs, g7.alloc g7.size _⟩
    · go_wp2_with fail
      go_region_held3 (fun w' => Below w.heap.size w w' ∧ Below w.heap.size w w')
        (first | exact ⟨g1, g1⟩ | exact ⟨g2, g2⟩ | exact ⟨g3, g3⟩ | exact ⟨g4, g4⟩ | exact ⟨g7, g7⟩ | exact ⟨g7.alloc g7.size _, g7.alloc g7.size _⟩ | assumption)
        (first
          | (refine step_keep (by rfl) (.tmp 48) (.tmp 49) (by rfl) w2.heap.size D n1 cd d' (by rfl) wc.heap.size (by rfl) HRW.out HDL.out HDB.out HGB.out (by omega) ?_; intro B7 c7 w7 hnew hold hgr7; have g7 : Below w.heap.size w w7 := g4.grown hgr7 g4.size (fun k e => Nat.le_trans hs2 (HFD.out k e)); have HN7 := Lib.hid hnew; have HO7 := Lib.hid hold; have HOB7 := Lib.hid (HO8.out.grown hgr7 (fun b off n c e e2 => by have h1 := HOLT2.out b off n c e; have h2 := HFD.out b e2; omega)); clear hnew hold hgr7))
      go_wp2_with fail
      go_meet
      case rel =>
        have hbs := bases_new (HX.out.below g7) HOB7.out HO7.out HN7.out (half_by HOB7.out HON.out) HX1.out HON.out HDL.out (by rw [List.length_append, HDL.out]; rfl) (by rw [List.length_take, HON.out]; omega)
        exact ⟨w7.heap.size, rfl, rfl, rfl, by simp, hbs, g7.alloc g7.size _⟩
  case rest =>
  obtain ⟨H, rfl, rfl, rfl, hH, hbase, hbw⟩ := hcut
  have HPB := Lib.hid hbase
  have HBP := Lib.hid hbw
  clear hbase hbw hOf m0 m1 hm hm2 hm3 hm4 g1 g2 g3 g4 HRW HGB HO8 HFD HOLT HOLT2 HX HX1 HOBW HROW HDL HDB HBW HON
  go_wp2_with fail
  go_loopw [58] (fun ii wr => ∃ i : Nat, i ≤ 5 ∧ ii = .int .i64 i ∧ Below wc.heap.size wc wr) (fun ii _ => 5 - (intOf ii).toNat)
  case atStart => exact ⟨0, by omega, rfl, Below.refl _ _⟩
  case round =>
    obtain ⟨i, hi, rfl, hb⟩ := hrel
    have HB := Lib.hid hb
    by_cases hlt : i < 5
    · obtain ⟨X, N, cx, bs, c0, hbb, hbl⟩ := (HPB.out i hlt).below hH hb
      by_cases hN : N ≤ 4000
      · have hNi : ¬ (4000 : Int) < (N : Int) := by omega
        have HPA := Lib.hid (parse_gen X N cx bs wr hbb hbl (by omega))
        have HRP := Lib.hid (fun W (hW : Below wr.heap.size wr W) => refparse_gen X N cx bs W (hbb.below hW) hbl hN)
        clear hb hbb hbl
        go_wp2_with fail
        refine HPA.out.mono ?_
        rintro e w4 (⟨os, A1, k1, vs1, rfl, hlp, hg, hol, hb4⟩ | ⟨hno, rfl, hb4⟩)
        · have HLP := Lib.hid hlp
          have HG := Lib.hid hg
          have HOL := Lib.hid hol
          have HB4 := Lib.hid hb4
          clear hlp hg hol hb4
          go_wp2_with fail
          refine (HRP.out _ HB4.out).mono ?_
          rintro e w5 (⟨os2, A2, k2, vs2, rfl, hlp2, hg2, hol2, hb5⟩ | ⟨hno, rfl, hb5⟩)
          · obtain rfl := HLP.out.uniq hlp2
            have HS := Lib.hid (same_any A1 A2 os.length k1 k2 os vs1 vs2 w5 (HOL.out.below hb5) hol2 (by have := hg2.1; omega))
            have HB5 := Lib.hid (HB.out.trans ((HB4.out.trans (hb5.mono HB4.out.size)).mono HB.out.size))
            clear hlp2 hg2 hol2 hb5
            go_wp2_with fail
            refine HS.out.mono ?_
            rintro e w6 ⟨rfl, hb6⟩
            have HB6 := Lib.hid (HB5.out.trans (hb6.mono HB5.out.size))
            clear hb6
            go_wp2_with fail
            exact ⟨⟨i + 1, by omega, by go_num, HB6.out⟩, by simp [intOf]; omega⟩
          · exact absurd HG.out (hno _ HLP.out)
        · have HNO := Lib.hid hno
          have HB4 := Lib.hid hb4
          clear hno hb4
          go_wp2_with fail
          refine (HRP.out _ HB4.out).mono ?_
          rintro e w5 (⟨os2, A2, k2, vs2, rfl, hlp2, hg2, hol2, hb5⟩ | ⟨hno, rfl, hb5⟩)
          · exact absurd hg2 (HNO.out _ hlp2)
          · have HS := Lib.hid (same_any none none 0 0 0 [] [] [] w5 ⟨rfl, rfl, fun h => absurd h (by omega), fun j hj => absurd hj (by omega)⟩ ⟨rfl, rfl, fun h => absurd h (by omega), fun j hj => absurd hj (by omega)⟩ (by omega))
            have HB5 := Lib.hid (HB.out.trans ((HB4.out.trans (hb5.mono HB4.out.size)).mono HB.out.size))
            clear hno hb5
            go_wp2_with fail
            refine HS.out.mono ?_
            rintro e w6 ⟨rfl, hb6⟩
            have HB6 := Lib.hid (HB5.out.trans (hb6.mono HB5.out.size))
            clear hb6
            go_wp2_with fail
            exact ⟨⟨i + 1, by omega, by go_num, HB6.out⟩, by simp [intOf]; omega⟩
      · have hNi : (4000 : Int) < (N : Int) := by omega
        clear hb hbb hbl
        go_wp2_with fail
        exact ⟨⟨i + 1, by omega, by go_num, HB.out⟩, by simp [intOf]; omega⟩
    · obtain rfl : i = 5 := by omega
      have HA1 := Lib.hid (awake_any wr)
      clear hb
      go_wp2_with fail
      refine HA1.out.mono ?_
      rintro e w3 ⟨rfl, hb3⟩
      have HB3 := Lib.hid (HB.out.trans (hb3.mono HB.out.size))
      clear hb3
      go_wp2_with fail
      go_ret
      exact ⟨rfl, HBP.out.trans (HB3.out.mono HBP.out.size)⟩

/-! ### THE ROW's STEP: WRITTEN OUT: LEAVE IT -/
set_option maxRecDepth 100000 in
theorem lifted (os : Os) (started : os.Started) (H : Type) (enc : TypeId × Value → H) :
    ReturnsInHanded {} Try.checked os 6 .any (Rows.deltaParsesSpec.pre6 enc Try.prog Try.f6 Rows.deltaParsesRow.domain false) (Rows.deltaParsesSpec.post enc Try.prog Try.f6 false true false false) := by
  refine returnsInHanded_of_change (C := Try.checked) own started (by kernel_rfl) Try.func6
    (ChangeSpec.witness6 (enc := enc) (C := Try.checked) false ⟨#[], #[.slice none 0 0, .slice none 0 0, .int .i64 0, .int .u8 0], []⟩ 8 (by kernel_rfl) (by kernel_rfl) (by kernel_rfl) (by kernel_rfl)) ?_
  intro W base args ds gs before hval0 hW hcnd _
  have hval : ∀ (j : Nat) t v, Try.f6.params[j]? = some t → args[j]? = some v → Value.okWide Try.prog W .any base t v := hval0
  have hW' := hW
  obtain ⟨p, q, hA0, hV, rfl, hfz, hnd⟩ := hW
  have hA : DataW.TrodAll enc Try.prog W 0 (fun _ => true) true Try.f6.params.toList args.toList ds p := hA0
  rw [Try.params6] at hA hval
  obtain ⟨v0, vs0, d0, ds0, p0, q0, hargs, rfl, rfl, h0, r0⟩ := trodAll_cons hA
  obtain ⟨v1, vs1, d1, ds1, p1, q1, rfl, rfl, rfl, h1, r1⟩ := trodAll_cons r0
  obtain ⟨v2, vs2, d2, ds2, p2, q2, rfl, rfl, rfl, h2, r2⟩ := trodAll_cons r1
  obtain ⟨v3, vs3, d3, ds3, p3, q3, rfl, rfl, rfl, h3, r3⟩ := trodAll_cons r2
  obtain ⟨rfl, rfl, rfl⟩ := trodAll_nil r3
  obtain rfl : args = #[v0, v1, v2, v3] := by cases args; simp_all
  obtain ⟨rfl, rfl⟩ := trodVars_none hV
  obtain ⟨a0, len0, cap0, rfl⟩ := okWide_slice Try.underlying22 (hval 0 22 v0 rfl rfl)
  have k0 := h0
  have lt0 : ∀ x ∈ p0, x.block < W.heap.size := by obtain ⟨m, hm⟩ := k0; exact DataW.trod_lt m _ _ _ hm
  obtain ⟨z0, w0⟩ : ∃ zs, IsRow .i64 W a0 len0 cap0 zs := by
    obtain ⟨fuel, hf⟩ := h0
    rcases open_ints Try.underlying22 Try.underlying3 (by kernel_rfl) hf with ⟨hcs, _⟩ | ⟨x, l, c, zs, hcs, _, hl, hm, hz, _, hcell, hwz⟩
    · simp [Value.cells] at hcs
      obtain ⟨rfl, rfl, rfl⟩ := hcs
      exact ⟨[], .inl ⟨rfl, rfl, rfl, rfl⟩⟩
    · simp [Value.cells] at hcs
      obtain ⟨rfl, rfl, rfl⟩ := hcs
      exact ⟨zs, .inr ⟨_, rfl, hl, hm, by simpa using hz, hcell, hwz⟩⟩
  obtain ⟨a1, len1, cap1, rfl⟩ := okWide_slice Try.underlying23 (hval 1 23 v1 rfl rfl)
  have k1 := h1
  have lt1 : ∀ x ∈ p1, x.block < W.heap.size := by obtain ⟨m, hm⟩ := k1; exact DataW.trod_lt m _ _ _ hm
  obtain ⟨z1, w1⟩ : ∃ zs, IsRow .u8 W a1 len1 cap1 zs := by
    obtain ⟨fuel, hf⟩ := h1
    rcases open_ints Try.underlying23 Try.underlying5 (by kernel_rfl) hf with ⟨hcs, _⟩ | ⟨x, l, c, zs, hcs, _, hl, hm, hz, _, hcell, hwz⟩
    · simp [Value.cells] at hcs
      obtain ⟨rfl, rfl, rfl⟩ := hcs
      exact ⟨[], .inl ⟨rfl, rfl, rfl, rfl⟩⟩
    · simp [Value.cells] at hcs
      obtain ⟨rfl, rfl, rfl⟩ := hcs
      exact ⟨zs, .inr ⟨_, rfl, hl, hm, by simpa using hz, hcell, hwz⟩⟩
  obtain ⟨a2, rfl, rfl, rfl, w2⟩ := open_int Try.underlying3 (hval 2 3 v2 rfl rfl) h2
  obtain ⟨a3, rfl, rfl, rfl, w3⟩ := open_int Try.underlying5 (hval 3 5 v3 rfl rfl) h3
  obtain ⟨b1, hb1, hy1⟩ := by_arg w1 (arg_lt Try.underlying23 (hval 1 23 _ rfl rfl))
  clear hA0 hval0
  refine (walk a0 len0 cap0 z0 a1 len1 cap1 b1 a2 a3 W w0 hy1 hb1).mono fun e W' ⟨he, bel⟩ => ?_
  subst he
  exact ⟨_, rfl, _, _, _, [], _, [], hW', trodAll_mk1 (shut_bool Try.underlying4 _), (trodAll_cons_mk (Below.trod laidOut (by kernel_rfl) (of_decide_eq_true (by kernel_rfl)) k0 bel lt0) (trodAll_cons_mk (Below.trod laidOut (by kernel_rfl) (of_decide_eq_true (by kernel_rfl)) k1 bel lt1) (trodAll_cons_mk (shut_int Try.underlying3 w2) (trodAll_cons_mk (shut_int Try.underlying5 w3) trodAll_mk0)))), rfl, bel.frame _, fun h => by cases h⟩

theorem over : Rows.deltaParsesRow.holds Try.pinned (OpenSpec.ofChange Rows.deltaParsesSpec) :=
  OpenClaim.holds_of_wide 6 Try.f6 rfl rfl rfl rfl rfl rfl rfl ⟨rfl, rfl, rfl, rfl, rfl⟩ rfl rfl rfl rfl rfl (by kernel_rfl) Try.func6 (by kernel_rfl)
    (of_decide_eq_true (by kernel_rfl)) (by unfold Func.isWrapper; first | (rw [if_pos (by decide +kernel)]; kernel_rfl) | (rw [if_neg (by decide +kernel)]; exact ⟨rfl, rfl⟩))
    (fun os started H enc _ => lifted os started H enc)

/-- ████ THE STATEMENT ████ -/
theorem proved : Rows.DeltaParsesSaid := over
#print axioms proved
end Go.Proofs.Ytgaliinjjonlmaa.deltaParses
