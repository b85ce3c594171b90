/-
  The Go function leakresponselaw12.DeltaMakes returns true for every list of numbers, base and target, and leaves what was there as it was; no conditions.
-/
import Derived.Test.YtgaliinjjonlmaaDtMw
import Derived.Test.YtgaliinjjonlmaaDtRm
import Derived.Test.YtgaliinjjonlmaaDtArg
import Derived.Test.YtgaliinjjonlmaaRows
import Derived.WalkKit
import Derived.ProofKit
import Derived.OpenShut
import Derived.ShutString
import Derived.ChangeOld
import Derived.Below
import Derived.Deep.RegionHeld3
namespace Go.Proofs.Ytgaliinjjonlmaa.deltaMakes
open Go.ChangeShapes Go.WideShapes Go.ChangeAt Go.RowKit
open Go.ChangeMaps (open_string shut_string)
open Go.Proofs.Ytgaliinjjonlmaa.Tp
open Go.Proofs.Ytgaliinjjonlmaa.Dt
set_option linter.unusedVariables false

/-- No more operations than bytes. -/
theorem few_made {w : World} {A : Option Addr} {k : Nat} {os : List O} {vs : List Value} {a b : List Nat} (hl : OLies w A k os vs) (hv : ∀ j, j < k → VO a.length (os.getD j o0) (vs.getD j undef)) (ha : apl a os k = b) : tot os k = b.length ∧ k ≤ b.length := by
  have ht : tot os k = b.length := by
    rw [← ha]
    exact (apl_len a os k (fun j hj => vo_ok (hv j hj) (hl.by_ j hj))).symm
  have hk : ∀ m, m ≤ k → m ≤ tot os m := by
    intro m
    induction m with
    | zero => intro _; exact Nat.zero_le _
    | succ m ih =>
      intro hm
      have h1 := ih (by omega)
      have h2 := vo_ok (hv m (by omega)) (hl.by_ m (by omega))
      have h3 : 1 ≤ cnt (os.getD m o0) := by
        unfold cnt
        rcases h2 with ⟨_, e, h4⟩ | ⟨h4, _⟩
        · rw [if_neg (by omega)]
          exact h4
        · rw [if_pos h4]
          exact h4
      simp only [tot]
      omega
  exact ⟨ht, by have := hk k (Nat.le_refl _); omega⟩

/-- A pair of the row. -/
def PairAt (w : World) (H i : Nat) : Prop := ∃ (A : Option Addr) (N ca : Nat) (a : List Nat) (B : Option Addr) (M cb : Nat) (b : List Nat), w.cell? ⟨H, i * 2, none⟩ = some (.slice A N ca) ∧ w.cell? ⟨H, i * 2 + 1, none⟩ = some (.slice B M cb) ∧
  By w (.slice A N ca) a ∧ By w (.slice B M cb) b ∧ a.length = N ∧ b.length = M

theorem PairAt.below {w w' : World} {H i : Nat} (h : PairAt w H i) (hH : H < w.heap.size) (hb : Below w.heap.size w w') : PairAt w' H i := by
  obtain ⟨A, N, ca, a, B, M, cb, b, h1, h2, h3, h4, h5, h6⟩ := h
  exact ⟨A, N, ca, a, B, M, cb, b, (hb.cell (p := ⟨H, _, none⟩) hH).trans h1, (hb.cell (p := ⟨H, _, none⟩) hH).trans h2, h3.below hb, h4.below hb, h5, h6⟩

/-- The row of five pairs. -/
theorem pairs_new {w : World} {A C X Y : Option Addr} {n m k l ca cc cx cy : Nat} {a c x y : List Nat} (ha : By w (.slice A n ca) a) (hc : By w (.slice C m cc) c) (hx : By w (.slice X k cx) x) (hy : By w (.slice Y l cy) y)
    (h1 : a.length = n) (h2 : c.length = m) (h3 : x.length = k) (h4 : y.length = l) (i : Nat) (hi : i < 5) :
    PairAt (w.alloc (.cells #[.slice A n ca, .slice C m cc, .slice C m cc, .slice A n ca, .slice A n ca, .slice none 0 0, .slice none 0 0, .slice A n ca, .slice X k cx, .slice Y l cy] 41)) w.heap.size i := by
  have hn := heap_alloc_new w (.cells #[.slice A n ca, .slice C m cc, .slice C m cc, .slice A n ca, .slice A n ca, .slice none 0 0, .slice none 0 0, .slice A n ca, .slice X k cx, .slice Y l cy] 41)
  have hb := box_below w (.cells #[.slice A n ca, .slice C m cc, .slice C m cc, .slice A n ca, .slice A n ca, .slice none 0 0, .slice none 0 0, .slice A n ca, .slice X k cx, .slice Y l cy] 41)
  have hnil : By (w.alloc (.cells #[.slice A n ca, .slice C m cc, .slice C m cc, .slice A n ca, .slice A n ca, .slice none 0 0, .slice none 0 0, .slice A n ca, .slice X k cx, .slice Y l cy] 41)) (.slice none 0 0) [] := ⟨by simp, .inl ⟨rfl, rfl⟩⟩
  rcases (by omega : i = 0 ∨ i = 1 ∨ i = 2 ∨ i = 3 ∨ i = 4) with rfl | rfl | rfl | rfl | rfl
  · exact ⟨A, n, ca, a, C, m, cc, c, by rw [cell_of_row _ _ _ _ _ _ hn]; rfl, by rw [cell_of_row _ _ _ _ _ _ hn]; rfl, ha.below hb, hc.below hb, h1, h2⟩
  · exact ⟨C, m, cc, c, A, n, ca, a, by rw [cell_of_row _ _ _ _ _ _ hn]; rfl, by rw [cell_of_row _ _ _ _ _ _ hn]; rfl, hc.below hb, ha.below hb, h2, h1⟩
  · exact ⟨A, n, ca, a, none, 0, 0, [], by rw [cell_of_row _ _ _ _ _ _ hn]; rfl, by rw [cell_of_row _ _ _ _ _ _ hn]; rfl, ha.below hb, hnil, h1, rfl⟩
  · exact ⟨none, 0, 0, [], A, n, ca, a, by rw [cell_of_row _ _ _ _ _ _ hn]; rfl, by rw [cell_of_row _ _ _ _ _ _ hn]; rfl, hnil, ha.below hb, rfl, h1⟩
  · exact ⟨X, k, cx, x, Y, l, cy, y, by rw [cell_of_row _ _ _ _ _ _ hn]; rfl, by rw [cell_of_row _ _ _ _ _ _ hn]; rfl, hx.below hb, hy.below hb, h3, h4⟩


set_option maxRecDepth 100000 in
set_option maxHeartbeats 4000000 in
theorem walk (a0 : Option Addr) (len0 cap0 : Nat) (z0 : List Int) (a1 : Option Addr) (len1 cap1 : Nat) (b1 : List Nat) (a2 : Option Addr) (len2 cap2 : Nat) (b2 : List Nat) (w : World) (w0 : IsRow .i64 w a0 len0 cap0 z0)
    (hx : By w (.slice a1 len1 cap1) b1) (hy : By w (.slice a2 len2 cap2) b2) (hx1 : b1.length = len1) (hy1 : b2.length = len2) :
    Calls Try.prog 4 #[.slice a0 len0 cap0, .slice a1 len1 cap1, .slice a2 len2 cap2] w fun e w' => e = .returned (.bool true) ∧ Below w.heap.size w w' := by
  have htp := tape_new w0
  have HTP := Lib.hid htp
  have HBX := Lib.hid (box_below w (.cells #[.slice a0 len0 cap0, .int .i64 0] 27))
  have HX := Lib.hid hx
  have HY := Lib.hid hy
  have HX1 := Lib.hid hx1
  have HY1 := Lib.hid hy1
  clear w0 htp hx hy hx1 hy1
  go_enter Try.func4, Try.ntmps4
  go_wp2_with fail
  refine (next_any w.heap.size 60 _ HTP.out (by omega) (by omega)).mono ?_
  rintro e w1 ⟨x, hx0, hx1, rfl, hg1, ht1⟩
  obtain ⟨n1, rfl⟩ : ∃ m : Nat, x = m := ⟨x.toNat, by omega⟩
  have hs1 := hg1.size
  simp at hs1
  have HG1 := Lib.hid hg1
  have HT1 := Lib.hid ht1
  clear hg1 ht1
  go_wp2_with fail
  refine (bytes_any w.heap.size n1 _ HT1.out (by omega) (by omega)).mono ?_
  rintro e w2 ⟨v, rfl, hrel⟩
  obtain ⟨a, A, ca, rfl, hla, hbya, hfa, hg2, ht2⟩ := made_by hrel (by omega)
  have hs2 := hg2.size
  have HBA := Lib.hid hbya
  have HFA : Hid (∀ x, A = some x → w.heap.size < x.block) := Lib.hid (fun x e => by have := hfa x e; omega)
  have HLA := Lib.hid hla
  have HG2 := Lib.hid (gb_trans HG1.out hg2)
  have HT2 := Lib.hid ht2
  clear hrel hla hbya hfa hg2 ht2
  go_wp2_with (at_builtin; refine append_by rfl (.tmp 21) (.tmp 22) rfl w2.heap.size (.slice (some ⟨w2.heap.size, 0, none⟩) 0 0) (.slice A n1 ca) 0 [] a rfl rfl (World.ownsRow_lit _ #[] 0 (Nat.le_refl _) (by unfold maxLen; omega) rfl) (HBA.out.below (box_below w2 _)) (by rw [HLA.out]; omega) (by simp) ?_; intro v3 w3 hown3 hgr3; have HO3 := Lib.hid hown3; have HG3 := Lib.hid hgr3; clear hown3 hgr3)
  have hs3 := HG3.out.size
  simp at hs3
  have ht3 : TapeOk w3 w.heap.size := (HT2.out.kept (World.grownBy_alloc w2 _ none) (by simp)).kept HG3.out (fun g e => by simp [Value.ownBlock] at e; omega)
  have hba3 : By w3 (.slice A n1 ca) a := (HBA.out.below (box_below w2 _)).grown HG3.out (fun b off n c e => by
    have := HBA.out.lt e
    simp [Value.ownBlock]
    omega)
  have hgr3 : Below w.heap.size w w3 := ((HBX.out.grown HG2.out HBX.out.size (fun k e => by cases e; exact Nat.le_refl _)).alloc (by omega) _).grown HG3.out (by simp; omega) (fun k e => by simp [Value.ownBlock] at e; omega)
  have HT3 := Lib.hid ht3
  have HBA3 := Lib.hid hba3
  have HB3 := Lib.hid hgr3
  clear ht3 hba3 hgr3
  go_wp2_with fail
  refine (next_any w.heap.size 9 _ HT3.out (by omega) (by omega)).mono ?_
  rintro e w4 ⟨x, hy0, hy1, rfl, hg4, ht4⟩
  obtain ⟨n2, rfl⟩ : ∃ m : Nat, x = m := ⟨x.toNat, by omega⟩
  have hs4 := hg4.size
  have HG4 := Lib.hid hg4
  have HT4 := Lib.hid ht4
  clear hg4 ht4
  go_wp2_with fail
  refine (bytes_any w.heap.size n2 _ HT4.out (by omega) (by omega)).mono ?_
  rintro e w5 ⟨v, rfl, hrel⟩
  obtain ⟨c, C, cc, rfl, hlc, hbyc, hfc, hg5, ht5⟩ := made_by hrel (by omega)
  have hs5 := hg5.size
  have HBC := Lib.hid hbyc
  have HLC := Lib.hid hlc
  have HG5 := Lib.hid (gb_trans HG4.out hg5)
  have HT5 := Lib.hid ht5
  have HBA5 := Lib.hid (HBA3.out.tape HFA.out HG5.out)
  have HO5 := Lib.hid (row_next (w := w2) (by omega) HO3.out HG5.out)
  have HB5 := Lib.hid (HB3.out.grown HG5.out (by omega) (fun k e => by cases e; exact Nat.le_refl _))
  clear hrel hlc hbyc hfc hg5 ht5
  go_upto_region 4 with (at_builtin; refine append_by rfl (.tmp 23) (.tmp 27) rfl w2.heap.size v3 (.slice C n2 cc) (0 + a.length) ([] ++ a) c rfl rfl HO5.out HBC.out (by rw [HLA.out, HLC.out]; omega) (by omega) ?_; intro v6 w6 hown6 hgr6; have HO6 := Lib.hid hown6; have HG6 := Lib.hid hgr6; clear hown6 hgr6)
  have hs6 := HG6.out.size
  have ho3 : ∀ g, v3.ownBlock = some g → w2.heap.size ≤ g := fun g e => (HO5.out.lt g e).1
  have HT6 : Hid (TapeOk w6 w.heap.size) := Lib.hid (HT5.out.kept HG6.out (fun g e => by have := ho3 g e; omega))
  have HBA6 : Hid (By w6 (.slice A n1 ca) a) := Lib.hid (HBA5.out.grown HG6.out (fun b off n k e e2 => by
    have := HBA.out.lt e
    have := ho3 _ e2
    omega))
  have HB6 : Hid (Below w.heap.size w w6) := Lib.hid (HB5.out.grown HG6.out (by omega) (fun k e => by have := ho3 k e; omega))
  have ho6 := HO6.out
  have hb6 : ∀ b ∈ ([] ++ a ++ c), b ≤ 255 := fun b hb => (List.mem_append.1 hb).elim (HBA.out.1 b) (HBC.out.1 b)
  obtain ⟨K, hK⟩ : ∃ K, 0 + a.length + c.length = K := ⟨_, rfl⟩
  obtain ⟨d, hd⟩ : ∃ d, [] ++ a ++ c = d := ⟨_, rfl⟩
  have hdK : d.length = K := by rw [← hd, ← hK]; simp
  have hK2 : K ≤ 70 := by
    have h1 := HLA.out
    have h2 := HLC.out
    omega
  rw [hK, hd] at ho6
  rw [hd] at hb6
  obtain ⟨hbyd, hfd⟩ := by_own ho6 hdK hb6
  obtain ⟨D, cd, e⟩ := hbyd.form
  rw [hdK] at e
  subst e
  have HROW := Lib.hid ho6
  have HBD6 := Lib.hid hbyd
  have HDK := Lib.hid hdK
  have HFD := Lib.hid hfd
  clear ho6 hbyd hfd ho3 hb6 hd hK HO6 HG6 HB5 HO5 HBA5 HT5 HG5 HLC HBC HT4 HG4 HB3 HBA3 HT3 HG3 HO3 HT2 HG2 HT1 HG1 HBX HTP
  go_upto_if 31 with fail
  go_cut [9] from 29 to 37 (fun s9 wx => ∃ d' : List Nat, s9 = .slice D K cd ∧ d'.length = K ∧ By wx (.slice D K cd) d' ∧ By wx (.slice A n1 ca) a ∧ Below w.heap.size w wx)
  case first =>
    by_cases h0 : 0 < K
    · have h0i : (0 : Int) < (K : Int) := by omega
      go_wp2_with fail
      refine (next_any w.heap.size K _ HT6.out (by omega) (by omega)).mono ?_
      rintro e w7 ⟨x, hq0, hq1, rfl, hg7, ht7⟩
      obtain ⟨q, rfl⟩ : ∃ m : Nat, x = m := ⟨x.toNat, by omega⟩
      have row7 := row_next (w := w2) (by omega) HROW.out hg7
      rcases row7.2 with ⟨e, _⟩ | ⟨g, cap, cur, e, hb, hh, hnc, hcm, _⟩
      · cases e
        omega
      · cases e
        have hby7 : By w7 (.slice (some ⟨g, 0, none⟩) K cd) d := HBD6.out.tape (fun x e => by cases e; show w.heap.size < g; omega) hg7
        have hba7 : By w7 (.slice A n1 ca) a := HBA6.out.tape HFA.out hg7
        obtain ⟨b', off', e, _, _, hcs⟩ := hby7.cells HDK.out h0
        cases e
        have hcell := hcs q (by omega)
        have f1 : w7.frozen? ⟨g, 0 + q, none⟩ = false := frozen_of_row _ _ _ _ _ hh
        have hd7 : ∃ d' : List Nat, d'.length = K ∧ By (w7.setCell ⟨g, 0 + q, none⟩ (.int .u8 63)) (.slice (some ⟨g, 0, none⟩) K cd) d' := ⟨d.set q 63, by simp [HDK.out], by_set (x := 63) hby7 (by rw [HDK.out]; omega) (by omega)⟩
        have ha7 : By (w7.setCell ⟨g, 0 + q, none⟩ (.int .u8 63)) (.slice A n1 ca) a := hba7.grown (gb_set _ _ _ _) (fun b off n c e e2 => by
          have := HBA.out.lt e
          have := Option.some.inj e2
          omega)
        have hl7 : Below w.heap.size w (w7.setCell ⟨g, 0 + q, none⟩ (.int .u8 63)) := (HB6.out.grown hg7 (by omega) (fun k e => by cases e; exact Nat.le_refl _)).grown (gb_set _ _ _ _) (by have := hg7.size; omega) (fun k e => by cases e; omega)
        have HD7 := Lib.hid hd7
        have HA7 := Lib.hid ha7
        have HL7 := Lib.hid hl7
        have hq2 : q < K := by omega
        rw [Nat.zero_add] at hcell f1
        clear hcs hby7 hba7 hd7 ha7 hl7 row7 hh hg7 ht7
        simp only [Nat.zero_add] at HD7 HA7 HL7
        go_wp2_with fail
        go_meet
        case rel =>
          obtain ⟨d', h1, h2⟩ := HD7.out
          exact ⟨d', rfl, h1, h2, HA7.out, HL7.out⟩
    · have h0i : ¬ (0 : Int) < (K : Int) := by omega
      go_wp2_with fail
      go_meet
      case rel => exact ⟨d, rfl, HDK.out, HBD6.out, HBA6.out, HB6.out⟩
  case rest =>
  obtain ⟨d', rfl, hdk, hbd, hba, hbl⟩ := hcut
  have hpa := pairs_new hba hbd (HX.out.below hbl) (HY.out.below hbl) HLA.out hdk HX1.out HY1.out
  have hws := hbl.size
  obtain ⟨H, hH⟩ : ∃ H, wc.heap.size = H := ⟨_, rfl⟩
  obtain ⟨wp, hwp⟩ : ∃ wp, wc.alloc (.cells #[.slice A n1 ca, .slice D K cd, .slice D K cd, .slice A n1 ca, .slice A n1 ca, .slice none 0 0, .slice none 0 0, .slice A n1 ca, .slice a1 len1 cap1, .slice a2 len2 cap2] 41) = wp := ⟨_, rfl⟩
  have hHp : H < wp.heap.size := by rw [← hwp, ← hH]; simp
  have hblp : Below w.heap.size w wp := by rw [← hwp]; exact hbl.alloc hbl.size _
  rw [hwp, hH] at hpa
  have HPA := Lib.hid hpa
  have HBP := Lib.hid hblp
  have HWP := Lib.hid hwp
  have HH := Lib.hid hH
  clear hpa hblp hwp hH hdk hbd hba hbl HX HY HX1 HY1 HLA HDK HBD6 HBA6 HB6 HFD HROW HT6 HFA HBA
  go_wp2_with fail
  rw [HWP.out, HH.out]
  go_loopw [53] (fun ii wr => ∃ i : Nat, i ≤ 5 ∧ ii = .int .i64 i ∧ Below wp.heap.size wp wr) (fun ii _ => 5 - (intOf ii).toNat)
  case atStart => exact ⟨0, by omega, rfl, Below.refl _ _⟩
  case round =>
    obtain ⟨i, hi, rfl, hb⟩ := hrel
    have HB := Lib.hid hb
    by_cases hlt : i < 5
    · obtain ⟨X, N, cx, xs, Y, M, cy, ys, c0, c1, hbx, hby, hNl, hMl⟩ := (HPA.out i hlt).below hHp hb
      have HBX := Lib.hid hbx
      have HBY := Lib.hid hby
      have HNL := Lib.hid hNl
      have HML := Lib.hid hMl
      have HB2 : Hid (Below wp.heap.size wp (wr.alloc (.cells #[.slice X N cx, .slice Y M cy] 41))) := Lib.hid (hb.alloc hb.size _)
      clear hb hbx hby hNl hMl
      by_cases hN : N ≤ 3000
      · by_cases hM : M ≤ 180
        · have hNi : ¬ (3000 : Int) < (N : Int) := by omega
          have hMi : ¬ (180 : Int) < (M : Int) := by omega
          have HMK := Lib.hid (make_wide X Y N M cx cy xs ys (wr.alloc (.cells #[.slice X N cx, .slice Y M cy] 41)) (HBX.out.below (box_below wr _)) (HBY.out.below (box_below wr _)) HNL.out HML.out hN (by omega))
          go_wp2_with fail
          refine HMK.out.mono ?_
          rintro e w1 ⟨L, k, cl, os, vs, rfl, hol, hvo, hk3, hap, hb1⟩
          obtain ⟨ht, hkM⟩ := few_made hol hvo hap
          rw [HML.out] at ht hkM
          rw [HNL.out] at hvo
          have hkk : decide (M < k) = false := decide_eq_false (by omega)
          have hr1 := (hb1.block wr.heap.size (by simp)).trans (heap_alloc_new wr (.cells #[.slice X N cx, .slice Y M cy] 41))
          have hby1 : By w1 (.slice Y M cy) ys := (HBY.out.below (box_below wr _)).below hb1
          have hbx1 : By w1 (.slice X N cx) xs := (HBX.out.below (box_below wr _)).below hb1
          have hrb : wr.heap.size < w1.heap.size := by have := hb1.size; simp at this; omega
          have HB1 := Lib.hid (HB2.out.trans (hb1.mono HB2.out.size))
          have hbytes : ∀ y ∈ apl xs os k, y ≤ 255 := by rw [hap]; exact hby1.1
          have hkp : ∀ W, Below w1.heap.size w1 W → W.cell? ⟨wr.heap.size, 0, none⟩ = some (.slice X N cx) ∧ W.cell? ⟨wr.heap.size, 1, none⟩ = some (.slice Y M cy) ∧ (convert 23 9 (.slice Y M cy)).run Try.prog W = .ok (.string (strB ys)) W ∧ Below w1.heap.size w1 W :=
            fun W hW => ⟨(hW.cell (p := ⟨wr.heap.size, 0, none⟩) hrb).trans (by rw [cell_of_row _ _ _ _ _ _ hr1]; rfl), (hW.cell (p := ⟨wr.heap.size, 1, none⟩) hrb).trans (by rw [cell_of_row _ _ _ _ _ _ hr1]; rfl), conv_by (hby1.below hW), hW⟩
          have HKP := Lib.hid hkp
          have hc25 : ∀ W, Below w1.heap.size w1 W → Calls Try.prog 25 #[.slice X N cx, .slice L k cl] W fun e w2 => e = .returned (.int .i64 0) ∧ Below w1.heap.size w1 w2 :=
            fun W hW => (refcheck_any L X k cl N cx os vs W (hol.below hW) hvo (by omega) (by omega) (by omega)).mono fun e w2 ⟨h1, h2⟩ => ⟨h1, hW.trans (h2.mono hW.size)⟩
          have HC25 := Lib.hid hc25
          have hc26 : ∀ W, Below w1.heap.size w1 W → Calls Try.prog 26 #[.slice X N cx, .slice L k cl] W fun e w2 => ∃ v, e = .returned v ∧ (∀ W', Below w2.heap.size w2 W' → (convert 23 9 v).run Try.prog W' = .ok (.string (strB ys)) W') ∧ Below w1.heap.size w1 w2 :=
            fun W hW => (refmade_any L X k cl N cx xs os vs W (hol.below hW) hvo (by omega) (by omega) (by omega) (hbx1.below hW) HNL.out).mono fun e w2 ⟨v, h1, h2, h3⟩ => ⟨v, h1, fun W' hW' => by
              have := (by_own h2 rfl hbytes).1
              rw [hap] at this
              exact conv_by (this.below hW'), hW.trans (h3.mono hW.size)⟩
          have HC26 := Lib.hid hc26
          have hbr : Below w1.heap.size w1 w1 := Below.refl _ _
          have hbd : Below w1.heap.size w1 w1.drew := hbr.drew
          clear hc25 hc26 hkp hol hvo hap hb1 ht hr1 hby1 hbx1 hbytes
          generalize strB ys = S at *
          go_upto_region 11 with fail
          go_cut [102] from 75 to 102 (fun s wx => s = .bool false ∧ Below w1.heap.size w1 wx)
          case first =>
            go_wp2_with fail
            obtain ⟨c1, c2, c3, _⟩ := HKP.out _ hbr
            obtain ⟨d1, d2, d3, _⟩ := HKP.out _ hbd
            go_region_with (first
              | (go_at_call 25; refine (HC25.out _ (by first | exact hbr | exact hbd)).mono ?_; rintro e w3 ⟨rfl, hb3⟩; obtain ⟨e1, e2, e3, _⟩ := HKP.out _ hb3; obtain ⟨f1, f2, f3, _⟩ := HKP.out _ hb3.drew)
              | (go_at_call 26; refine (HC26.out _ (by first | exact hb3 | exact hb3.drew)).mono ?_; rintro e w4 ⟨v, rfl, hcv, hb4⟩; obtain ⟨g1, g2, g3, _⟩ := HKP.out _ hb4; obtain ⟨h1, h2, h3, _⟩ := HKP.out _ hb4.drew; have hcv1 := hcv _ (Below.refl _ _); have hcv2 := hcv _ (Below.refl _ _).drew; clear hcv))
            all_goals
              go_wp2_with fail
              go_meet
              case rel => exact ⟨rfl, hb4⟩
          case rest =>
          obtain ⟨rfl, hbw⟩ := hcut
          have HBW := Lib.hid (HB1.out.trans (hbw.mono HB1.out.size))
          clear hbw hbr hbd
          go_wp2_with fail
          exact ⟨⟨i + 1, by omega, by go_num, HBW.out⟩, by simp [intOf]; omega⟩
        · have hNi : ¬ (3000 : Int) < (N : Int) := by omega
          have hMi : (180 : Int) < (M : Int) := by omega
          go_wp2_with fail
          exact ⟨⟨i + 1, by omega, by go_num, HB2.out⟩, by simp [intOf]; omega⟩
      · have hNi : (3000 : Int) < (N : Int) := by omega
        go_wp2_with fail
        exact ⟨⟨i + 1, by omega, by go_num, HB2.out⟩, by simp [intOf]; omega⟩
    · obtain rfl : i = 5 := by omega
      have HA1 := Lib.hid (awake_any wr)
      go_wp2_with fail
      refine HA1.out.mono ?_
      rintro e w1 ⟨rfl, hb1⟩
      have HB1 := Lib.hid (HB.out.trans (hb1.mono HB.out.size))
      clear hb hb1
      go_wp2_with fail
      go_ret
      exact ⟨rfl, HBP.out.trans (HB1.out.mono HBP.out.size)⟩

/-! ### THE ROW's STEP: WRITTEN OUT: LEAVE IT -/
set_option maxRecDepth 100000 in
theorem lifted (os : Os) (started : os.Started) (H : Type) (enc : TypeId × Value → H) :
    ReturnsInHanded {} Try.checked os 4 .any (Rows.deltaMakesSpec.pre6 enc Try.prog Try.f4 Rows.deltaMakesRow.domain false) (Rows.deltaMakesSpec.post enc Try.prog Try.f4 false true false false) := by
  refine returnsInHanded_of_change (C := Try.checked) own started (by kernel_rfl) Try.func4
    (ChangeSpec.witness6 (enc := enc) (C := Try.checked) false ⟨#[], #[.slice none 0 0, .slice none 0 0, .slice none 0 0], []⟩ 8 (by kernel_rfl) (by kernel_rfl) (by kernel_rfl) (by kernel_rfl)) ?_
  intro W base args ds gs before hval0 hW hcnd _
  have hval : ∀ (j : Nat) t v, Try.f4.params[j]? = some t → args[j]? = some v → Value.okWide Try.prog W .any base t v := hval0
  have hW' := hW
  obtain ⟨p, q, hA0, hV, rfl, hfz, hnd⟩ := hW
  have hA : DataW.TrodAll enc Try.prog W 0 (fun _ => true) true Try.f4.params.toList args.toList ds p := hA0
  rw [Try.params4] at hA hval
  obtain ⟨v0, vs0, d0, ds0, p0, q0, hargs, rfl, rfl, h0, r0⟩ := trodAll_cons hA
  obtain ⟨v1, vs1, d1, ds1, p1, q1, rfl, rfl, rfl, h1, r1⟩ := trodAll_cons r0
  obtain ⟨v2, vs2, d2, ds2, p2, q2, rfl, rfl, rfl, h2, r2⟩ := trodAll_cons r1
  obtain ⟨rfl, rfl, rfl⟩ := trodAll_nil r2
  obtain rfl : args = #[v0, v1, v2] := by cases args; simp_all
  obtain ⟨rfl, rfl⟩ := trodVars_none hV
  obtain ⟨a0, len0, cap0, rfl⟩ := okWide_slice Try.underlying22 (hval 0 22 v0 rfl rfl)
  have k0 := h0
  have lt0 : ∀ x ∈ p0, x.block < W.heap.size := by obtain ⟨m, hm⟩ := k0; exact DataW.trod_lt m _ _ _ hm
  obtain ⟨z0, w0⟩ : ∃ zs, IsRow .i64 W a0 len0 cap0 zs := by
    obtain ⟨fuel, hf⟩ := h0
    rcases open_ints Try.underlying22 Try.underlying3 (by kernel_rfl) hf with ⟨hcs, _⟩ | ⟨x, l, c, zs, hcs, _, hl, hm, hz, _, hcell, hwz⟩
    · simp [Value.cells] at hcs
      obtain ⟨rfl, rfl, rfl⟩ := hcs
      exact ⟨[], .inl ⟨rfl, rfl, rfl, rfl⟩⟩
    · simp [Value.cells] at hcs
      obtain ⟨rfl, rfl, rfl⟩ := hcs
      exact ⟨zs, .inr ⟨_, rfl, hl, hm, by simpa using hz, hcell, hwz⟩⟩
  obtain ⟨a1, len1, cap1, rfl⟩ := okWide_slice Try.underlying23 (hval 1 23 v1 rfl rfl)
  have k1 := h1
  have lt1 : ∀ x ∈ p1, x.block < W.heap.size := by obtain ⟨m, hm⟩ := k1; exact DataW.trod_lt m _ _ _ hm
  obtain ⟨z1, w1⟩ : ∃ zs, IsRow .u8 W a1 len1 cap1 zs := by
    obtain ⟨fuel, hf⟩ := h1
    rcases open_ints Try.underlying23 Try.underlying5 (by kernel_rfl) hf with ⟨hcs, _⟩ | ⟨x, l, c, zs, hcs, _, hl, hm, hz, _, hcell, hwz⟩
    · simp [Value.cells] at hcs
      obtain ⟨rfl, rfl, rfl⟩ := hcs
      exact ⟨[], .inl ⟨rfl, rfl, rfl, rfl⟩⟩
    · simp [Value.cells] at hcs
      obtain ⟨rfl, rfl, rfl⟩ := hcs
      exact ⟨zs, .inr ⟨_, rfl, hl, hm, by simpa using hz, hcell, hwz⟩⟩
  obtain ⟨a2, len2, cap2, rfl⟩ := okWide_slice Try.underlying23 (hval 2 23 v2 rfl rfl)
  have k2 := h2
  have lt2 : ∀ x ∈ p2, x.block < W.heap.size := by obtain ⟨m, hm⟩ := k2; exact DataW.trod_lt m _ _ _ hm
  obtain ⟨z2, w2⟩ : ∃ zs, IsRow .u8 W a2 len2 cap2 zs := by
    obtain ⟨fuel, hf⟩ := h2
    rcases open_ints Try.underlying23 Try.underlying5 (by kernel_rfl) hf with ⟨hcs, _⟩ | ⟨x, l, c, zs, hcs, _, hl, hm, hz, _, hcell, hwz⟩
    · simp [Value.cells] at hcs
      obtain ⟨rfl, rfl, rfl⟩ := hcs
      exact ⟨[], .inl ⟨rfl, rfl, rfl, rfl⟩⟩
    · simp [Value.cells] at hcs
      obtain ⟨rfl, rfl, rfl⟩ := hcs
      exact ⟨zs, .inr ⟨_, rfl, hl, hm, by simpa using hz, hcell, hwz⟩⟩
  obtain ⟨b1, hb1, hy1⟩ := by_arg w1 (arg_lt Try.underlying23 (hval 1 23 _ rfl rfl))
  obtain ⟨b2, hb2, hy2⟩ := by_arg w2 (arg_lt Try.underlying23 (hval 2 23 _ rfl rfl))
  clear hA0 hval0
  refine (walk a0 len0 cap0 z0 a1 len1 cap1 b1 a2 len2 cap2 b2 W w0 hy1 hy2 hb1 hb2).mono fun e W' ⟨he, bel⟩ => ?_
  subst he
  exact ⟨_, rfl, _, _, _, [], _, [], hW', trodAll_mk1 (shut_bool Try.underlying4 _), (trodAll_cons_mk (Below.trod laidOut (by kernel_rfl) (of_decide_eq_true (by kernel_rfl)) k0 bel lt0) (trodAll_cons_mk (Below.trod laidOut (by kernel_rfl) (of_decide_eq_true (by kernel_rfl)) k1 bel lt1) (trodAll_cons_mk (Below.trod laidOut (by kernel_rfl) (of_decide_eq_true (by kernel_rfl)) k2 bel lt2) trodAll_mk0))), rfl, bel.frame _, fun h => by cases h⟩

theorem over : Rows.deltaMakesRow.holds Try.pinned (OpenSpec.ofChange Rows.deltaMakesSpec) :=
  OpenClaim.holds_of_wide 4 Try.f4 rfl rfl rfl rfl rfl rfl rfl ⟨rfl, rfl, rfl, rfl, rfl⟩ rfl rfl rfl rfl rfl (by kernel_rfl) Try.func4 (by kernel_rfl)
    (of_decide_eq_true (by kernel_rfl)) (by unfold Func.isWrapper; first | (rw [if_pos (by decide +kernel)]; kernel_rfl) | (rw [if_neg (by decide +kernel)]; exact ⟨rfl, rfl⟩))
    (fun os started H enc _ => lifted os started H enc)

/-- ████ THE STATEMENT ████ -/
theorem proved : Rows.DeltaMakesSaid := over
#print axioms proved
end Go.Proofs.Ytgaliinjjonlmaa.deltaMakes
