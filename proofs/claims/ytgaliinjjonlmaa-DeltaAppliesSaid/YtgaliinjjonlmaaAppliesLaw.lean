/-
  The Go function leakresponselaw12.DeltaApplies returns true for every list of numbers, every base and every list of operations, and leaves what was there as it was; no conditions.
-/
import Derived.Test.YtgaliinjjonlmaaDtRaw8
import Derived.Test.YtgaliinjjonlmaaDtBent
import Derived.Test.YtgaliinjjonlmaaDtArgR
import Derived.Test.YtgaliinjjonlmaaRows
import Derived.Deep.RegionHeld3
import Derived.WalkKit
import Derived.ProofKit
import Derived.OpenShut
import Derived.ShutString
import Derived.ChangeOld
import Derived.Below
namespace Go.Proofs.Ytgaliinjjonlmaa.deltaApplies
open Go.ChangeShapes Go.WideShapes Go.ChangeAt Go.RowKit
open Go.ChangeMaps (open_string shut_string)
open Go.Proofs.Ytgaliinjjonlmaa.Tp
open Go.Proofs.Ytgaliinjjonlmaa.Dt
set_option linter.unusedVariables false

/-- A row of the four. -/
def RowAt (w : World) (H i : Nat) : Prop := ∃ (A : Option Addr) (n c : Nat) (rs : List R) (vs : List Value), w.cell? ⟨H, i, none⟩ = some (.slice A n c) ∧ RLies w A n rs vs ∧ n ≤ maxLen

theorem RowAt.below {w w' : World} {H i : Nat} (h : RowAt w H i) (hH : H < w.heap.size) (hb : Below w.heap.size w w') : RowAt w' H i := by
  obtain ⟨A, n, c, rs, vs, h1, h2, h3⟩ := h
  exact ⟨A, n, c, rs, vs, (hb.cell (p := ⟨H, _, none⟩) hH).trans h1, h2.below hb, h3⟩

theorem rows_new {w : World} {A B X : Option Addr} {n m k ca cb cx : Nat} {rs qs xs : List R} {vs us ys : List Value} (ha : RLies w A n rs vs) (hb : RLies w B m qs us) (hx : RLies w X k xs ys) (h1 : n ≤ maxLen) (h2 : m ≤ maxLen) (h3 : k ≤ maxLen) (i : Nat) (hi : i < 4) :
    RowAt (w.alloc (.cells #[.slice A n ca, .slice B m cb, .slice X k cx, .slice none 0 0] 24)) w.heap.size i := by
  have hn := heap_alloc_new w (.cells #[.slice A n ca, .slice B m cb, .slice X k cx, .slice none 0 0] 24)
  have hb' := box_below w (.cells #[.slice A n ca, .slice B m cb, .slice X k cx, .slice none 0 0] 24)
  rcases (by omega : i = 0 ∨ i = 1 ∨ i = 2 ∨ i = 3) with rfl | rfl | rfl | rfl
  · exact ⟨A, n, ca, rs, vs, by rw [cell_of_row _ _ _ _ _ _ hn]; rfl, ha.below hb', h1⟩
  · exact ⟨B, m, cb, qs, us, by rw [cell_of_row _ _ _ _ _ _ hn]; rfl, hb.below hb', h2⟩
  · exact ⟨X, k, cx, xs, ys, by rw [cell_of_row _ _ _ _ _ _ hn]; rfl, hx.below hb', h3⟩
  · exact ⟨none, 0, 0, [], [], by rw [cell_of_row _ _ _ _ _ _ hn]; rfl, ⟨rfl, rfl, fun h => absurd h (by omega), fun j hj => absurd hj (by omega)⟩, by unfold maxLen; omega⟩

/-- A base of the three. -/
def BaseAt (w : World) (H i : Nat) : Prop := ∃ (A : Option Addr) (n c : Nat) (bs : List Nat), w.cell? ⟨H, i, none⟩ = some (.slice A n c) ∧ By w (.slice A n c) bs ∧ bs.length = n

theorem BaseAt.below {w w' : World} {H i : Nat} (h : BaseAt w H i) (hH : H < w.heap.size) (hb : Below w.heap.size w w') : BaseAt w' H i := by
  obtain ⟨A, n, c, bs, h1, h2, h3⟩ := h
  exact ⟨A, n, c, bs, (hb.cell (p := ⟨H, _, none⟩) hH).trans h1, h2.below hb, h3⟩

theorem bases_at {w : World} {H : Nat} {A X : Option Addr} {n k ca cx : Nat} {a x : List Nat} (hh : w.heap[H]? = some (.cells #[.slice A n ca, .slice X k cx, .slice none 0 0] 23 (0, 0))) (ha : By w (.slice A n ca) a) (hx : By w (.slice X k cx) x) (h1 : a.length = n) (h2 : x.length = k) (i : Nat) (hi : i < 3) : BaseAt w H i := by
  rcases (by omega : i = 0 ∨ i = 1 ∨ i = 2) with rfl | rfl | rfl
  · exact ⟨A, n, ca, a, by rw [cell_of_row _ _ _ _ _ _ hh]; rfl, ha, h1⟩
  · exact ⟨X, k, cx, x, by rw [cell_of_row _ _ _ _ _ _ hh]; rfl, hx, h2⟩
  · exact ⟨none, 0, 0, [], by rw [cell_of_row _ _ _ _ _ _ hh]; rfl, ⟨by simp, .inl ⟨rfl, rfl⟩⟩, rfl⟩

theorem apB_bytes {w : World} {A : Option Addr} {n N : Nat} {rs : List R} {vs : List Value} {base : List Nat} (h : RLies w A n rs vs) (hb : ∀ b ∈ base, b ≤ 255) : ∀ b ∈ apB rs n N base, b ≤ 255 := by
  have hm : ∀ m, m ≤ n → ∀ b ∈ apl base (rs.map toO) m, b ≤ 255 := by
    intro m
    induction m with
    | zero => intro _ b hb; simp [apl] at hb
    | succ m ih =>
      intro hm b hx
      rcases List.mem_append.1 hx with hx | hx
      · exact ih (by omega) b hx
      · rw [toO_at rs m (by have := h.len; omega)] at hx
        rcases List.mem_append.1 hx with hx | hx
        · exact hb b (List.mem_of_mem_drop (List.mem_of_mem_take hx))
        · exact (h.by_ m (by omega)).1 b hx
  intro b hx
  unfold apB at hx
  split at hx
  · exact hm n (Nat.le_refl _) b hx
  · simp at hx

set_option maxRecDepth 100000 in
set_option maxHeartbeats 4000000 in
theorem walk (a0 : Option Addr) (len0 cap0 : Nat) (z0 : List Int) (a1 : Option Addr) (len1 cap1 : Nat) (b1 : List Nat) (a2 : Option Addr) (len2 cap2 : Nat) (xs : List R) (ys : List Value) (w : World) (w0 : IsRow .i64 w a0 len0 cap0 z0)
    (hy : By w (.slice a1 len1 cap1) b1) (hy1 : b1.length = len1) (hx : RLies w a2 len2 xs ys) (hx1 : len2 ≤ maxLen) :
    Calls Try.prog 3 #[.slice a0 len0 cap0, .slice a1 len1 cap1, .slice a2 len2 cap2] w fun e w' => e = .returned (.bool true) ∧ Below w.heap.size w w' := by
  have htp := tape_new w0
  have HTP := Lib.hid htp
  have HBX := Lib.hid (box_below w (.cells #[.slice a0 len0 cap0, .int .i64 0] 27))
  have HX := Lib.hid hx
  have HX1 := Lib.hid hx1
  have HY := Lib.hid hy
  have HY1 := Lib.hid hy1
  clear w0 htp hx hx1 hy hy1
  go_enter Try.func3, Try.ntmps3
  go_wp2_with fail
  refine (next_any w.heap.size 30 _ HTP.out (by omega) (by omega)).mono ?_
  rintro e w1 ⟨x, hx0, hx1, rfl, hg1, ht1⟩
  obtain ⟨n1, rfl⟩ : ∃ m : Nat, x = m := ⟨x.toNat, by omega⟩
  have hs1 := hg1.size
  simp at hs1
  have HG1 := Lib.hid hg1
  have HT1 := Lib.hid ht1
  clear hg1 ht1
  go_wp2_with fail
  refine (bytes_any w.heap.size n1 _ HT1.out (by omega) (by omega)).mono ?_
  rintro e w2 ⟨v, rfl, hrel⟩
  obtain ⟨a, A, ca, rfl, hla, hbya, hfa, hg2, ht2⟩ := made_by hrel (by omega)
  have hs2 := hg2.size
  have HBA := Lib.hid hbya
  have HFA : Hid (∀ x, A = some x → w.heap.size < x.block) := Lib.hid (fun x e => by have := hfa x e; omega)
  have HLA := Lib.hid hla
  have HG2 := Lib.hid (gb_trans HG1.out hg2)
  have HT2 := Lib.hid ht2
  clear hrel hla hbya hfa hg2 ht2
  go_wp2_with fail
  refine (ops_any w.heap.size n1 _ HT2.out (by omega) (by omega)).mono ?_
  rintro e w3 ⟨ps, v, rfl, hpl, hop⟩
  have hs3 := hop.gr.size
  obtain ⟨L, cl, e, hol⟩ := olies_of hop.row hop.by_
  subst e
  have HOP := Lib.hid hop
  have HBA3 := Lib.hid (HBA.out.tape HFA.out hop.gr)
  have HG3 := Lib.hid (gb_trans HG2.out hop.gr)
  clear hop hol
  obtain ⟨H1, hH1⟩ : ∃ H1, w3.heap.size = H1 := ⟨_, rfl⟩
  obtain ⟨w4, hw4⟩ : ∃ w4, w3.alloc (.cells #[.slice A n1 ca, .slice a1 len1 cap1, .slice none 0 0] 23) = w4 := ⟨_, rfl⟩
  have hb34 : Below w3.heap.size w3 w4 := by rw [← hw4]; exact box_below w3 _
  have hrow4 : w4.ownsRow w2.heap.size 54 3 (.slice L ps.length cl) ps.length (ocs ps) := by rw [← hw4]; exact HOP.out.row.alloc _
  have ht4 : TapeOk w4 w.heap.size := by rw [← hw4]; exact HOP.out.tp.kept (World.grownBy_alloc w3 _ none) (by simp)
  have hg4 : w3.grownBy w4 none := by rw [← hw4]; exact World.grownBy_alloc w3 _ none
  have hcell4 : w4.heap[H1]? = some (.cells #[.slice A n1 ca, .slice a1 len1 cap1, .slice none 0 0] 23 (0, 0)) := by rw [← hw4, ← hH1]; exact heap_alloc_new w3 _
  have hs4 := hg4.size
  have HB34 := Lib.hid hb34
  have HROW4 := Lib.hid hrow4
  have HT4 := Lib.hid ht4
  have HG4 := Lib.hid hg4
  have HC4 := Lib.hid hcell4
  have HH1 := Lib.hid hH1
  have HW4 := Lib.hid hw4
  clear hb34 hrow4 ht4 hg4 hcell4 hH1 hw4 HTP HT1 HT2 HG1 HG2
  go_wp2_with fail
  rw [HW4.out, HH1.out]
  refine (bent_any w.heap.size _ w4 ps _ HROW4.out (fun p hp => (HOP.out.by_ p hp).below HB34.out) (fun p hp b off n c e => by have := (HOP.out.ne p hp b off n c e).2; omega) (by omega) HT4.out (by omega)).mono ?_
  rintro e w5 ⟨x, dv, B, cb, rfl, hrl, hxl, hg5, ht5⟩
  have hH1T : H1 ≠ w.heap.size := by have := HH1.out; omega
  have hb5 : Below w.heap.size w w5 := HBX.out.grown (gb_trans HG3.out (gb_trans (gb_row HG4.out) hg5)) HBX.out.size (fun k e => by cases e; exact Nat.le_refl _)
  have hby5 : By w5 (.slice A n1 ca) a := (HBA3.out.below HB34.out).tape HFA.out hg5
  have hc5 : w5.heap[H1]? = some (.cells #[.slice A n1 ca, .slice a1 len1 cap1, .slice none 0 0] 23 (0, 0)) := (hg5.block H1 (row_lt HC4.out) (by simpa using hH1T)).trans HC4.out
  have hrow5 : w5.ownsRow w2.heap.size 54 3 (.slice L ps.length cl) ps.length (ocs ps) := own_next (by omega) HROW4.out hg5
  obtain ⟨L', cl', e, hol⟩ := olies_of hrow5 (fun p hp => ((HOP.out.by_ p hp).below HB34.out).grown hg5 (fun b off n c e e2 => by
    have := (HOP.out.ne p hp b off n c e).2
    have e3 := Option.some.inj e2
    omega))
  cases e
  have hs5 := hg5.size
  have hrows := rows_new (ca := cl) (cb := cb) (cx := cap2) hol.raw hrl (HX.out.below hb5) (by unfold maxLen; omega) (by unfold maxLen; omega) HX1.out
  have hbases := fun i (hi : i < 3) => (bases_at hc5 hby5 (HY.out.below hb5) HLA.out HY1.out i hi).below (row_lt hc5) (box_below w5 (.cells #[.slice L ps.length cl, .slice B (ps.length + 1) cb, .slice a2 len2 cap2, .slice none 0 0] 24))
  obtain ⟨H2, hH2⟩ : ∃ H2, w5.heap.size = H2 := ⟨_, rfl⟩
  obtain ⟨wp, hwp⟩ : ∃ wp, w5.alloc (.cells #[.slice L ps.length cl, .slice B (ps.length + 1) cb, .slice a2 len2 cap2, .slice none 0 0] 24) = wp := ⟨_, rfl⟩
  have hH1p : H1 < wp.heap.size := by have := row_lt hc5; rw [← hwp]; simp; omega
  have hH2p : H2 < wp.heap.size := by rw [← hwp, ← hH2]; simp
  have hblp : Below w.heap.size w wp := by rw [← hwp]; exact hb5.alloc hb5.size _
  rw [hwp, hH2] at hrows
  rw [hwp] at hbases
  have HPB := Lib.hid hbases
  have HPA := Lib.hid hrows
  have HBP := Lib.hid hblp
  have HWP := Lib.hid hwp
  have HH2 := Lib.hid hH2
  clear hH1T hb5 hby5 hc5 hrow5 hol hrows hbases hblp hwp hH2 hrl hg5 ht5 HOP HBX HX HX1 HY HY1 HBA HFA HLA HBA3 HG3 HB34 HROW4 HT4 HG4 HC4 HH1 HW4
  go_wp2_with fail
  rw [HWP.out, HH2.out]
  go_loopw [12] (fun ii wr => ∃ i : Nat, i ≤ 3 ∧ ii = .int .i64 i ∧ Below wp.heap.size wp wr) (fun ii _ => 3 - (intOf ii).toNat)
  case atStart => exact ⟨0, by omega, rfl, Below.refl _ _⟩
  case round =>
    obtain ⟨i, hi, rfl, hb⟩ := hrel
    have HB := Lib.hid hb
    clear hb
    by_cases hlt : i < 3
    · have hdi : decide ((i : Int) < 3) = true := decide_eq_true (by omega)
      go_wp2_with fail
      go_loopw [13] (fun kk wr => ∃ k : Nat, k ≤ 4 ∧ kk = .int .i64 k ∧ Below wp.heap.size wp wr) (fun kk _ => 4 - (intOf kk).toNat)
      case atStart => exact ⟨0, by omega, rfl, HB.out⟩
      case round =>
        obtain ⟨k, hk, rfl, hb⟩ := hrel
        have HBK := Lib.hid hb
        by_cases hltk : k < 4
        · have hdk : decide ((k : Int) < 4) = true := decide_eq_true (by omega)
          obtain ⟨X, N, cx, bs, c0, hbb, hbl⟩ := (HPB.out i hlt).below hH1p hb
          obtain ⟨Z, n, cz, rs, vs, c1, hrl, hn⟩ := (HPA.out k hltk).below hH2p hb
          have HBB := Lib.hid hbb
          have HBLN := Lib.hid hbl
          have HRL := Lib.hid hrl
          have HFW := Lib.hid (few_any Z n cz rs vs wr hrl hn)
          clear hb hbb hrl hn hbl
          by_cases hN : N ≤ 3000
          · have hNi : ¬ (3000 : Int) < (N : Int) := by omega
            go_wp2_with fail
            refine HFW.out.mono ?_
            rintro e w3 ⟨q, rfl, hq, hb3⟩
            have HB3 := Lib.hid (HBK.out.trans (hb3.mono HBK.out.size))
            cases q
            · clear hq hb3
              go_wp2_with fail
              exact ⟨⟨k + 1, by omega, by go_num, HB3.out⟩, by simp [intOf]; omega⟩
            · have hn2 := (hq rfl).1
              have hr3 := HRL.out.below hb3
              have hy3 := HBB.out.below hb3
              have hq0 : ∀ W, Below w3.heap.size w3 W → W.cell? ⟨H1, i, none⟩ = some (.slice X N cx) ∧ W.cell? ⟨H2, k, none⟩ = some (.slice Z n cz) ∧ Below w3.heap.size w3 W := by
                have e1 := (hb3.cell (p := ⟨H1, i, none⟩) (Nat.lt_of_lt_of_le hH1p HBK.out.size)).trans c0
                have e2 := (hb3.cell (p := ⟨H2, k, none⟩) (Nat.lt_of_lt_of_le hH2p HBK.out.size)).trans c1
                have l1 := Nat.lt_of_lt_of_le hH1p HB3.out.size
                have l2 := Nat.lt_of_lt_of_le hH2p HB3.out.size
                exact fun W hW => ⟨(hW.cell (p := ⟨H1, i, none⟩) l1).trans e1, (hW.cell (p := ⟨H2, k, none⟩) l2).trans e2, hW⟩
              have hbytes := apB_bytes (N := N) hr3 hy3.1
              have ha : ∀ W, Below w3.heap.size w3 W → Calls Try.prog 20 #[.slice X N cx, .slice Z n cz] W fun e w' => ∃ v, e = .returned (.tuple #[v, .int .i64 (chk rs n N)]) ∧ (∀ W', Below w'.heap.size w' W' → (convert 23 9 v).run Try.prog W' = .ok (.string (strB (apB rs n N bs))) W') ∧ Below W.heap.size W w' :=
                fun W hW => (apply_raw Z X n cz N cx bs rs vs W (hr3.below hW) hn2 (by omega) (hy3.below hW) HBLN.out).mono fun e w' ⟨v, h1, h2, h3⟩ => ⟨v, h1, fun W' hW' => conv_by ((by_own h2 rfl hbytes).1.below hW'), h3⟩
              have hr : ∀ W, Below w3.heap.size w3 W → Calls Try.prog 21 #[.slice X N cx, .slice Z n cz] W fun e w' => ∃ v, e = .returned (.tuple #[v, .int .i64 (chk rs n N)]) ∧ (∀ W', Below w'.heap.size w' W' → (convert 23 9 v).run Try.prog W' = .ok (.string (strB (apB rs n N bs))) W') ∧ Below W.heap.size W w' :=
                fun W hW => (refapply_raw Z X n cz N cx bs rs vs W (hr3.below hW) hn2 (by omega) (hy3.below hW) HBLN.out).mono fun e w' ⟨v, h1, h2, h3⟩ => ⟨v, h1, fun W' hW' => conv_by ((by_own h2 rfl hbytes).1.below hW'), h3⟩
              have hc : ∀ W, Below w3.heap.size w3 W → Calls Try.prog 22 #[.slice X N cx, .slice Z n cz] W fun e w' => e = .returned (.int .i64 (chk rs n N)) ∧ Below W.heap.size W w' :=
                fun W hW => (check_raw Z X n cz N cx rs vs W (hr3.below hW) hn2 (by omega)).mono fun e w' ⟨h1, h2⟩ => ⟨h1, h2⟩
              have HQ := Lib.hid hq0
              have HA := Lib.hid ha
              have HR := Lib.hid hr
              have HC := Lib.hid hc
              have hbr : Below w3.heap.size w3 w3 := Below.refl _ _
              have hbd : Below w3.heap.size w3 w3.drew := hbr.drew
              have i1 : (i : Int) < 3 := by omega
              have k1 : (k : Int) < 4 := by omega
              clear hq hb3 hr3 hy3 hq0 hbytes ha hr hc c0 c1
              generalize chk rs n N = E at *
              generalize strB (apB rs n N bs) = SS at *
              have HA3 : Hid (∀ W, Below w3.heap.size w3 W → Calls Try.prog 20 #[.slice X N cx, .slice Z n cz] W fun e w' => ∃ v, e = .returned (.tuple #[v, .int .i64 E]) ∧ (∀ W', Below w'.heap.size w' W' → (convert 23 9 v).run Try.prog W' = .ok (.string SS) W') ∧ Below w3.heap.size w3 w') := Lib.hid (fun W hW => (HA.out W hW).mono fun e w' ⟨v, h1, h2, h3⟩ => ⟨v, h1, h2, hW.trans (h3.mono hW.size)⟩)
              go_wp2_with fail
              go_region_held3 (fun w' => w'.cell? ⟨H1, i, none⟩ = some (.slice X N cx) ∧ w'.cell? ⟨H2, k, none⟩ = some (.slice Z n cz) ∧ Below w3.heap.size w3 w')
                (first | exact HQ.out _ hbr | exact HQ.out _ hbd | exact HQ.out _ hb4 | assumption)
                (first | (go_at_call 20; refine (HA3.out _ ?_).mono ?_; (first | assumption | (go_split_ands; assumption)); rintro e w4 ⟨v1, rfl, hcv1, hb4⟩))
              have HCV1 := Lib.hid hcv1
              clear hcv1
              go_wp2_with fail
              have HR4 : Hid (∀ W, Below w4.heap.size w4 W → Calls Try.prog 21 #[.slice X N cx, .slice Z n cz] W fun e w' => ∃ v, e = .returned (.tuple #[v, .int .i64 E]) ∧ (∀ W', Below w'.heap.size w' W' → (convert 23 9 v).run Try.prog W' = .ok (.string SS) W') ∧ Below w4.heap.size w4 w') := Lib.hid (fun W hW => (HR.out W (hb4.trans (hW.mono hb4.size))).mono fun e w' ⟨v, h1, h2, h3⟩ => ⟨v, h1, h2, hW.trans (h3.mono hW.size)⟩)
              have HQ4 : Hid (∀ W, Below w4.heap.size w4 W → W.cell? ⟨H1, i, none⟩ = some (.slice X N cx) ∧ W.cell? ⟨H2, k, none⟩ = some (.slice Z n cz) ∧ Below w4.heap.size w4 W) := Lib.hid (fun W hW => by
                have h2 := HQ.out _ (hb4.trans (hW.mono hb4.size))
                exact ⟨h2.1, h2.2.1, hW⟩)
              have hcr : Below w4.heap.size w4 w4 := Below.refl _ _
              have hcd : Below w4.heap.size w4 w4.drew := hcr.drew
              go_region_held3 (fun w' => w'.cell? ⟨H1, i, none⟩ = some (.slice X N cx) ∧ w'.cell? ⟨H2, k, none⟩ = some (.slice Z n cz) ∧ Below w4.heap.size w4 w')
                (first | exact HQ4.out _ hcr | exact HQ4.out _ hcd | exact HQ4.out _ hb6 | assumption)
                (first | (go_at_call 21; refine (HR4.out _ ?_).mono ?_; (first | assumption | (go_split_ands; assumption)); rintro e w6 ⟨v2, rfl, hcv2, hb6⟩))
              have hb36 := hb4.trans (hb6.mono hb4.size)
              have HB36 := Lib.hid hb36
              have HC6 : Hid (∀ W, Below w6.heap.size w6 W → Calls Try.prog 22 #[.slice X N cx, .slice Z n cz] W fun e w' => e = .returned (.int .i64 E) ∧ Below w6.heap.size w6 w') := Lib.hid (fun W hW => (HC.out W (hb36.trans (hW.mono hb36.size))).mono fun e w' ⟨h1, h2⟩ => ⟨h1, hW.trans (h2.mono hW.size)⟩)
              have HQ6 : Hid (∀ W, Below w6.heap.size w6 W → W.cell? ⟨H1, i, none⟩ = some (.slice X N cx) ∧ W.cell? ⟨H2, k, none⟩ = some (.slice Z n cz) ∧ (convert 23 9 v1).run Try.prog W = .ok (.string SS) W ∧ (convert 23 9 v2).run Try.prog W = .ok (.string SS) W ∧ Below w6.heap.size w6 W) := Lib.hid (fun W hW => by
                have h2 := HQ.out _ (hb36.trans (hW.mono hb36.size))
                exact ⟨h2.1, h2.2.1, HCV1.out _ (hb6.trans (hW.mono hb6.size)), hcv2 _ hW, hW⟩)
              have hdr : Below w6.heap.size w6 w6 := Below.refl _ _
              have hdd : Below w6.heap.size w6 w6.drew := hdr.drew
              clear hcv2 hb36 hcr hcd hb6 hb4 hbr hbd
              go_wp2_with fail
              go_region_held3 (fun w' => w'.cell? ⟨H1, i, none⟩ = some (.slice X N cx) ∧ w'.cell? ⟨H2, k, none⟩ = some (.slice Z n cz) ∧ (convert 23 9 v1).run Try.prog w' = .ok (.string SS) w' ∧ (convert 23 9 v2).run Try.prog w' = .ok (.string SS) w' ∧ Below w6.heap.size w6 w')
                (first | exact HQ6.out _ hdr | exact HQ6.out _ hdd | exact HQ6.out _ hb8 | assumption)
                (first | (go_at_call 22; refine (HC6.out _ ?_).mono ?_; (first | assumption | (go_split_ands; assumption)); rintro e w8 ⟨rfl, hb8⟩))
              have HB8 := Lib.hid (HB3.out.trans ((HB36.out.trans (hb8.mono HB36.out.size)).mono HB3.out.size))
              go_wp2_with fail
              exact ⟨⟨k + 1, by omega, by go_num, HB8.out⟩, by simp [intOf]; omega⟩
          · have hNi : (3000 : Int) < (N : Int) := by omega
            go_wp2_with fail
            exact ⟨⟨k + 1, by omega, by go_num, HBK.out⟩, by simp [intOf]; omega⟩
        · obtain rfl : k = 4 := by omega
          go_wp2_with fail
          exact ⟨⟨i + 1, by omega, by go_num, HBK.out⟩, by simp [intOf]; omega⟩
    · obtain rfl : i = 3 := by omega
      have HA1 := Lib.hid (awake_any wr)
      go_wp2_with fail
      refine HA1.out.mono ?_
      rintro e w3 ⟨rfl, hb3⟩
      have HB3 := Lib.hid (HB.out.trans (hb3.mono HB.out.size))
      clear hb3
      go_wp2_with fail
      go_ret
      exact ⟨rfl, HBP.out.trans (HB3.out.mono HBP.out.size)⟩

/-! ### THE ROW's STEP: WRITTEN OUT: LEAVE IT -/
set_option maxRecDepth 100000 in
theorem lifted (os : Os) (started : os.Started) (H : Type) (enc : TypeId × Value → H) :
    ReturnsInHanded {} Try.checked os 3 .any (Rows.deltaAppliesSpec.pre6 enc Try.prog Try.f3 Rows.deltaAppliesRow.domain false) (Rows.deltaAppliesSpec.post enc Try.prog Try.f3 false true false false) := by
  refine returnsInHanded_of_change (C := Try.checked) own started (by kernel_rfl) Try.func3
    (ChangeSpec.witness6 (enc := enc) (C := Try.checked) false ⟨#[], #[.slice none 0 0, .slice none 0 0, .slice none 0 0], []⟩ 8 (by kernel_rfl) (by kernel_rfl) (by kernel_rfl) (by kernel_rfl)) ?_
  intro W base args ds gs before hval0 hW hcnd _
  have hval : ∀ (j : Nat) t v, Try.f3.params[j]? = some t → args[j]? = some v → Value.okWide Try.prog W .any base t v := hval0
  have hW' := hW
  obtain ⟨p, q, hA0, hV, rfl, hfz, hnd⟩ := hW
  have hA : DataW.TrodAll enc Try.prog W 0 (fun _ => true) true Try.f3.params.toList args.toList ds p := hA0
  rw [Try.params3] at hA hval
  obtain ⟨v0, vs0, d0, ds0, p0, q0, hargs, rfl, rfl, h0, r0⟩ := trodAll_cons hA
  obtain ⟨v1, vs1, d1, ds1, p1, q1, rfl, rfl, rfl, h1, r1⟩ := trodAll_cons r0
  obtain ⟨v2, vs2, d2, ds2, p2, q2, rfl, rfl, rfl, h2, r2⟩ := trodAll_cons r1
  obtain ⟨rfl, rfl, rfl⟩ := trodAll_nil r2
  obtain rfl : args = #[v0, v1, v2] := by cases args; simp_all
  obtain ⟨rfl, rfl⟩ := trodVars_none hV
  obtain ⟨a0, len0, cap0, rfl⟩ := okWide_slice Try.underlying22 (hval 0 22 v0 rfl rfl)
  have k0 := h0
  have lt0 : ∀ x ∈ p0, x.block < W.heap.size := by obtain ⟨m, hm⟩ := k0; exact DataW.trod_lt m _ _ _ hm
  obtain ⟨z0, w0⟩ : ∃ zs, IsRow .i64 W a0 len0 cap0 zs := by
    obtain ⟨fuel, hf⟩ := h0
    rcases open_ints Try.underlying22 Try.underlying3 (by kernel_rfl) hf with ⟨hcs, _⟩ | ⟨x, l, c, zs, hcs, _, hl, hm, hz, _, hcell, hwz⟩
    · simp [Value.cells] at hcs
      obtain ⟨rfl, rfl, rfl⟩ := hcs
      exact ⟨[], .inl ⟨rfl, rfl, rfl, rfl⟩⟩
    · simp [Value.cells] at hcs
      obtain ⟨rfl, rfl, rfl⟩ := hcs
      exact ⟨zs, .inr ⟨_, rfl, hl, hm, by simpa using hz, hcell, hwz⟩⟩
  obtain ⟨a1, len1, cap1, rfl⟩ := okWide_slice Try.underlying23 (hval 1 23 v1 rfl rfl)
  have k1 := h1
  have lt1 : ∀ x ∈ p1, x.block < W.heap.size := by obtain ⟨m, hm⟩ := k1; exact DataW.trod_lt m _ _ _ hm
  obtain ⟨z1, w1⟩ : ∃ zs, IsRow .u8 W a1 len1 cap1 zs := by
    obtain ⟨fuel, hf⟩ := h1
    rcases open_ints Try.underlying23 Try.underlying5 (by kernel_rfl) hf with ⟨hcs, _⟩ | ⟨x, l, c, zs, hcs, _, hl, hm, hz, _, hcell, hwz⟩
    · simp [Value.cells] at hcs
      obtain ⟨rfl, rfl, rfl⟩ := hcs
      exact ⟨[], .inl ⟨rfl, rfl, rfl, rfl⟩⟩
    · simp [Value.cells] at hcs
      obtain ⟨rfl, rfl, rfl⟩ := hcs
      exact ⟨zs, .inr ⟨_, rfl, hl, hm, by simpa using hz, hcell, hwz⟩⟩
  obtain ⟨a2, len2, cap2, rfl⟩ := okWide_slice Try.underlying24 (hval 2 24 v2 rfl rfl)
  have k2 := h2
  have lt2 : ∀ x ∈ p2, x.block < W.heap.size := by obtain ⟨m, hm⟩ := k2; exact DataW.trod_lt m _ _ _ hm
  obtain ⟨hx1, xs, ys, hx⟩ : len2 ≤ maxLen ∧ ∃ rs vs, RLies W a2 len2 rs vs := by
    obtain ⟨fuel, hf⟩ := h2
    exact rlies_arg hf (arg_lt Try.underlying24 (hval 2 24 _ rfl rfl))
  obtain ⟨b1, hb1, hy1⟩ := by_arg w1 (arg_lt Try.underlying23 (hval 1 23 _ rfl rfl))
  clear hA0 hval0
  refine (walk a0 len0 cap0 z0 a1 len1 cap1 b1 a2 len2 cap2 xs ys W w0 hy1 hb1 hx hx1).mono fun e W' ⟨he, bel⟩ => ?_
  subst he
  exact ⟨_, rfl, _, _, _, [], _, [], hW', trodAll_mk1 (shut_bool Try.underlying4 _), (trodAll_cons_mk (Below.trod laidOut (by kernel_rfl) (of_decide_eq_true (by kernel_rfl)) k0 bel lt0) (trodAll_cons_mk (Below.trod laidOut (by kernel_rfl) (of_decide_eq_true (by kernel_rfl)) k1 bel lt1) (trodAll_cons_mk (Below.trod laidOut (by kernel_rfl) (of_decide_eq_true (by kernel_rfl)) k2 bel lt2) trodAll_mk0))), rfl, bel.frame _, fun h => by cases h⟩

theorem over : Rows.deltaAppliesRow.holds Try.pinned (OpenSpec.ofChange Rows.deltaAppliesSpec) :=
  OpenClaim.holds_of_wide 3 Try.f3 rfl rfl rfl rfl rfl rfl rfl ⟨rfl, rfl, rfl, rfl, rfl⟩ rfl rfl rfl rfl rfl (by kernel_rfl) Try.func3 (by kernel_rfl)
    (of_decide_eq_true (by kernel_rfl)) (by unfold Func.isWrapper; first | (rw [if_pos (by decide +kernel)]; kernel_rfl) | (rw [if_neg (by decide +kernel)]; exact ⟨rfl, rfl⟩))
    (fun os started H enc _ => lifted os started H enc)

/-- ████ THE STATEMENT ████ -/
theorem proved : Rows.DeltaAppliesSaid := over
#print axioms proved
end Go.Proofs.Ytgaliinjjonlmaa.deltaApplies
