/-
  The Go function leakresponse/leakresponselaw24.RegistryIssues returns true for every list of numbers, and leaves what was there as it was; no conditions.
-/
import Derived.Test.YtablgpcgfogfoaaRgO
import Derived.Test.YtablgpcgfogfoaaRows
import Derived.WalkKit
import Derived.ProofKit
import Derived.OpenShut
import Derived.ShutString
import Derived.ChangeOld
import Derived.Below
namespace Go.Proofs.Ytablgpcgfogfoaa.registryIssues
open Go.ChangeShapes Go.WideShapes Go.ChangeAt Go.RowKit
open Go.ChangeMaps (open_string shut_string)
open Go.Proofs.Ytablgpcgfogfoaa.Tp
open Go.Proofs.Ytablgpcgfogfoaa.Rg
set_option linter.unusedVariables false

theorem infoZ : (Try.prog.info? 26).map (·.size) = some zG.size := info26 ⟨[], []⟩ ⟨none, 0, none, 0⟩
def IYes (r : Rg) (x : Cr) (w : World) (e : Ending) (w' : World) : Prop := ∃ v', e = .returned (.tuple #[.agg (gv (add r x) v'), .int .i64 ((r.c.length : Nat) : Int), .int .i64 0]) ∧ RL w' w.heap.size nmI (add r x) v' ∧ Below w.heap.size w w'
theorem issue_yes (B : Nat) (r : Rg) (v : Vr) (x : Cr) (w : World) (h : Gd w B nmI r v) (hx : Cw r x) (h2 : crowd (add r x) = false) (hc : r.c.length < 24) :
    Calls Try.prog 31 #[.agg (gv r v), .agg (kc x)] w (IYes r x w) := by
  refine (issue_any B nmI r v x w h.l h.n h.f hx h.c hc).mono ?_
  rintro e w' (⟨h1, -⟩ | ⟨-, hv⟩)
  · rw [h2] at h1; cases h1
  · exact hv
theorem issue_no (B : Nat) (r : Rg) (v : Vr) (x : Cr) (w : World) (h : Gd w B nmI r v) (hx : Cw r x) (h2 : crowd (add r x) = true) (hc : r.c.length < 24) :
    Calls Try.prog 31 #[.agg (gv r v), .agg (kc x)] w fun e w' => e = .returned (.tuple #[.agg zG, .int .i64 0, .int .i64 31]) ∧ Below w.heap.size w w' := by
  refine (issue_any B nmI r v x w h.l h.n h.f hx h.c hc).mono ?_
  rintro e w' (⟨-, hv⟩ | ⟨h1, -⟩)
  · exact hv
  · rw [h2] at h1; cases h1
def FiPost (k : Nat) (w : World) (e : Ending) (w' : World) : Prop := ∃ A n cc, e = .returned (.slice A n cc) ∧ (Calls Try.prog 33 #[.slice A n cc, .int .i64 (k : Int)] w' fun e w'' => e = .returned (.bool true) ∧ w'' = w') ∧ Below w.heap.size w w'
theorem yes_all (B : Nat) (r : Rg) (v' : Vr) (x : Cr) (w : World) (h : Gd w B nmI (add r x) v') (hf : x.f < x.u) :
    (Calls Try.prog 14 #[.agg (gv (add r x) v')] w fun e w' => e = .returned (.int .i64 0) ∧ Below w.heap.size w w') ∧
    (Calls Try.prog 18 #[.agg (gv (add r x) v'), .int .i64 (r.c.length : Int), .int .i64 (x.f : Int)] w fun e w' => e = .returned (.bool true) ∧ Below w.heap.size w w') ∧
    (Calls Try.prog 18 #[.agg (gv (add r x) v'), .int .i64 (r.c.length : Int), .int .i64 (x.u : Int)] w fun e w' => e = .returned (.bool false) ∧ Below w.heap.size w w') ∧
    Calls Try.prog 25 #[.agg (gv (add r x) v'), .int .u64 (x.p : Int)] w (FiPost r.c.length w) := by
  have hl : r.c.length < (add r x).c.length := by rw [add_len]; omega
  refine ⟨check_ok h, ?_, ?_, ?_⟩
  · have := valid_any B nmI _ v' r.c.length x.f w h hl
    rwa [cg_end, show val x x.f = true by simp [val, hf]] at this
  · have := valid_any B nmI _ v' r.c.length x.u w h hl
    rwa [cg_end, show val x x.u = false by simp [val]] at this
  · refine (find_any B nmI _ v' x.p w h).mono ?_
    rintro e w' ⟨A, cc, rfl, hrow, hb⟩
    refine ⟨A, _, cc, rfl, ?_, hb⟩
    have hh := has_any (idx (fun j => (cg (add r x) j).p == x.p) (add r x).c.length) r.c.length A _ cc w' (hrow.base (Nat.zero_le _)) (Nat.le_trans (cnt_le _ _) (Nat.le_trans h.f.n2 (by omega)))
    rwa [has_idx _ _ _ hl, show ((cg (add r x) r.c.length).p == x.p) = true by rw [cg_end]; simp] at hh

theorem kxCells {w : World} {g : Nat} {x : Cr} {t : TypeId} {o : Nat × Nat} (h : w.heap[g]? = some (.cells (kc x) t o)) :
    w.cell? ⟨g, 0, none⟩ = some (.int .i64 (x.i : Int)) ∧ w.cell? ⟨g, 1, none⟩ = some (.int .u64 (x.p : Int)) ∧ w.cell? ⟨g, 2, none⟩ = some (.int .i64 (x.h : Int)) ∧ w.cell? ⟨g, 3, none⟩ = some (.int .i64 (x.f : Int)) ∧ w.cell? ⟨g, 4, none⟩ = some (.int .i64 (x.u : Int)) := by
  refine ⟨?_, ?_, ?_, ?_, ?_⟩ <;> rw [cell_of_row _ _ _ _ _ _ h] <;> rfl

/-- No room at the moment k after x begins. -/
def full (r : Rg) (x : Cr) (k : Nat) : Bool := decide (sl r x.i ≤ hc r x.i x.h (x.f + k))
theorem room_iff {r : Rg} {x : Cr} (h : x.f < x.u) : anyB (full r x) (x.u - x.f) = false ↔ roomy r x := by
  constructor
  · intro h0 t h1 h2
    have := no_any h0 (t - x.f) (by omega)
    unfold full at this
    rw [decide_eq_false_iff_not, show x.f + (t - x.f) = t by omega] at this
    omega
  · intro h0
    refine any_no fun i hi => ?_
    unfold full
    rw [decide_eq_false_iff_not]
    have := h0 (x.f + i) (by omega) (by omega)
    omega

set_option maxRecDepth 100000 in
set_option maxHeartbeats 4000000 in
theorem walk (a0 : Option Addr) (len0 cap0 : Nat) (z0 : List Int) (w : World) (w0 : IsRow .i64 w a0 len0 cap0 z0) :
    Calls Try.prog 5 #[.slice a0 len0 cap0] w fun e w' => e = .returned (.bool true) ∧ Below w.heap.size w w' := by
  have hm := w0.at_.1
  unfold maxLen at hm
  have HTP := Lib.hid (tape_new w0)
  have HBX := Lib.hid (box_below w (.cells #[.slice a0 len0 cap0, .int .i64 0] 33))
  clear w0
  by_cases hlen : 300 < len0
  · have hl0 : (300 : Int) < (len0 : Int) := by omega
    go_enter Try.func5, Try.ntmps5
    go_wp2_with (go_at_call 9; refine (awake_any _).mono ?_; rintro e w1 ⟨rfl, hb1⟩; have HB1 := Lib.hid hb1; clear hb1)
    go_ret
    exact ⟨rfl, HB1.out⟩
  · have hl0 : (len0 : Int) ≤ (300 : Int) := by omega
    go_enter Try.func5, Try.ntmps5
    go_wp2_with fail
    refine (registry_any w.heap.size _ HTP.out (by simp)).mono ?_
    rintro e w1 ⟨r, v, rfl, hwf, hcr, hi1, hi2, hc7, hrl, hg1, ht1⟩
    have hb1 : Below w.heap.size w w1 := HBX.out.grown hg1 HBX.out.size (fun k e => by cases e; exact Nat.le_refl _)
    have hs1 := hg1.size
    simp at hs1
    have HQ := Lib.hid (heap_alloc_new w1 (.cells (gv r v) 26))
    have HGD := Lib.hid (show Gd (w1.alloc (.cells (gv r v) 26)) (w.heap.size + 1) nmI r v from ⟨(hrl.base (show w.heap.size + 1 ≤ _ by simp)).below (box_below w1 (.cells (gv r v) 26)), nm_I, hwf, hcr⟩)
    have HB1 := Lib.hid (hb1.trans ((box_below w1 (.cells (gv r v) 26)).mono hb1.size))
    have HT1 := Lib.hid (tape_new2 ht1 (.cells (gv r v) 26))
    have HWF := Lib.hid hwf
    have HCR := Lib.hid hcr
    clear hrl hg1 ht1 hb1 hwf hcr
    obtain ⟨g0, g1⟩ := gvCells HQ.out
    go_wp2_with (with_reducible (show wpList _ _ _ (⟨none, .store 26 (.tmp 4) (.tmp 19), _, _, _, _⟩ :: _) _ _); refine wpList_store_row (o := ⟨none, .store 26 (.tmp 4) (.tmp 19), _, _, _, _⟩) rfl 26 (.tmp 4) (.tmp 19) rfl w1.heap.size (gv r v) rfl rfl 26 zG (heap_alloc_new _ _) (info26 _ _) rfl (gv_one _ _) ?_; rw [new_set])
    have lQ : w1.heap.size < (w1.alloc (.cells (gv r v) 26)).heap.size := row_lt HQ.out
    generalize w1.heap.size = Q at *
    generalize w1.alloc (.cells (gv r v) 26) = W1 at *
    clear g0 g1
    have hwf := HWF.out
    have hcr := HCR.out
    have hTr : w.heap.size < W1.heap.size := by omega
    have he : ∀ w', TapeOk w' w.heap.size → w.heap.size < w'.heap.size → Calls Try.prog 30 #[.pointer (some ⟨w.heap.size, 0, none⟩), .agg #[.slice v.A1 r.s.length v.c1, .slice v.A2 r.c.length v.c2]] w' (CrPost w.heap.size r w') := fun w' ht hl => cred_any w.heap.size r v w' ht hl hi1 (by omega)
    have HE := Lib.hid he
    clear he hwf hcr
    obtain ⟨g0, g1⟩ := gvCells HQ.out
    go_wp2_with (first
      | (go_at_call 30; (with_reducible refine (HE.out _ HT1.out hTr).mono ?_); rintro e w2 ⟨x, hx, rfl, hg2, ht2⟩)
      | (with_reducible (show wpList _ _ _ (⟨none, .store 29 (.tmp 5) (.tmp 22), _, _, _, _⟩ :: _) _ _); refine wpList_store_row (o := ⟨none, .store 29 (.tmp 5) (.tmp 22), _, _, _, _⟩) rfl 29 (.tmp 5) (.tmp 22) rfl w2.heap.size (kc x) rfl rfl 29 zK (heap_alloc_new _ _) (info29 _) rfl (kc_one _) ?_; rw [new_set];
         have hb2 := Below.grown HB1.out hg2 HB1.out.size (fun k e => by cases e; exact Nat.le_refl _);
         have Q2 := Lib.hid (((box_below w2 (.cells (kc x) 29)).block Q (row_lt ((hg2.block Q lQ (by simp; omega)).trans HQ.out))).trans ((hg2.block Q lQ (by simp; omega)).trans HQ.out));
         have HG2 := Lib.hid (show Gd (w2.alloc (.cells (kc x) 29)) (w.heap.size + 1) nmI r v from ⟨(HGD.out.l.grown (row := some w.heap.size) hg2 (fun g e => by cases e; omega)).below (box_below w2 (.cells (kc x) 29)), nm_I, HWF.out, HCR.out⟩);
         have HB2 := Lib.hid (hb2.trans ((box_below w2 (.cells (kc x) 29)).mono hb2.size));
         have HX := Lib.hid (heap_alloc_new w2 (.cells (kc x) 29));
         have XG := Lib.hid hx; have hfu := hx.f; have hu := hx.u;
         clear hb2 hg2 ht2 hx g0 g1; generalize w2.heap.size = X at *; generalize w2.alloc (.cells (kc x) 29) = W3 at *; obtain ⟨x0, x1, x2, x3, x4⟩ := kxCells HX.out))
    clear x0 x1 x2 x3 x4
    go_loopw [6, 7] (fun bb tt wr => ∃ k : Nat, k ≤ x.u - x.f ∧ tt = .int .i64 ((x.f + k : Nat) : Int) ∧ bb = .bool (!anyB (full r x) k) ∧ Below W3.heap.size W3 wr) (fun _ tt _ => x.u - (intOf tt).toNat)
    case atStart => exact ⟨0, by omega, rfl, rfl, Below.refl _ _⟩
    case round =>
      obtain ⟨k, hk, rfl, rfl, hbl⟩ := hrel
      have HBL := Lib.hid hbl
      have QK := Lib.hid ((hbl.block Q (row_lt Q2.out)).trans Q2.out)
      have XK := Lib.hid ((hbl.block X (row_lt HX.out)).trans HX.out)
      have HGK := Lib.hid (HG2.out.below hbl)
      have HBK := Lib.hid (HB2.out.trans (hbl.mono HB2.out.size))
      clear hbl
      obtain ⟨x0, x1, x2, x3, x4⟩ := kxCells XK.out
      obtain ⟨g0, g1⟩ := gvCells QK.out
      by_cases hlt : x.f + k < x.u
      · have t3 : ((x.f + k : Nat) : Int) < (x.u : Int) := by omega
        have hrm := room_any _ nmI r v x.i x.h (x.f + k) wr HGK.out XG.out.i
        simp only [gv] at hrm
        have hsl := (HWF.out.s x.i XG.out.i).2
        have hcl := hc_le HCR.out x.i x.h (x.f + k)
        have hfl : full r x k = decide (sl r x.i ≤ hc r x.i x.h (x.f + k)) := rfl
        have hk2 : anyB (full r x) (k + 1) = (anyB (full r x) k || full r x k) := rfl
        generalize full r x k = fk at *
        generalize sl r x.i = s at *
        generalize hc r x.i x.h (x.f + k) = n at *
        simp only [Int.natCast_add] at hrm
        have HRM := Lib.hid hrm
        have HK2 := Lib.hid hk2
        have HFL := Lib.hid hfl
        clear hrm hk2 hfl
        have hdc : decide (n < s) = !fk := by
          rw [HFL.out]
          by_cases h : s ≤ n
          · rw [decide_eq_true h, decide_eq_false (by omega)]; rfl
          · rw [decide_eq_false h, decide_eq_true (by omega)]; rfl
        have HDC := Lib.hid hdc
        clear hdc
        generalize anyB (full r x) k = ak at *
        cases ak
        · go_wp2_with fail
          refine HRM.out.mono ?_
          rintro e w5 ⟨rfl, hb5⟩
          go_wp2_with fail
          exact ⟨⟨k + 1, by omega, by go_num, by rw [HK2.out]; first | rfl | (simp; exact HDC.out), HBL.out.trans (hb5.mono HBL.out.size)⟩, by simp [intOf]; omega⟩
        · go_wp2_with fail
          exact ⟨⟨k + 1, by omega, by go_num, by rw [HK2.out]; rfl, HBL.out⟩, by simp [intOf]; omega⟩
      · obtain rfl : k = x.u - x.f := by omega
        have e1 : x.f + (x.u - x.f) = x.u := by omega
        rw [e1]
        clear e1 hlt
        by_cases hro : roomy r x
        · rw [(room_iff hfu).2 hro]
          have hcr2 := (add_crowd HCR.out).2 hro
          have his := issue_yes (w.heap.size + 1) r v x wr HGK.out XG.out hcr2 (by omega)
          simp only [gv, kc] at his
          have HIS := Lib.hid his
          have HC2 := Lib.hid hcr2
          clear his hcr2 hro
          have hln : (((add r x).c.length : Nat) : Int) = (r.c.length : Int) + 1 := by rw [add_len]; omega
          go_wp2_with (first
            | (go_at_call 31; (with_reducible refine HIS.out.mono ?_); rintro e w5 ⟨v', rfl, h2, h3⟩)
            | (with_reducible (show wpList _ _ _ (⟨none, .store 26 (.tmp 8) (.tmp 46), _, _, _, _⟩ :: _) _ _); refine wpList_store_row (o := ⟨none, .store 26 (.tmp 8) (.tmp 46), _, _, _, _⟩) rfl 26 (.tmp 8) (.tmp 46) rfl w5.heap.size (gv (add r x) v') rfl rfl 26 zG (heap_alloc_new _ _) (info26 _ _) rfl (gv_one _ _) ?_; rw [new_set];
               have HW5 := Lib.hid h3; have HRL5 := Lib.hid h2; clear h2 h3;
               have hb6 : Below wr.heap.size wr (w5.alloc (.cells (gv (add r x) v') 26)) := HW5.out.trans ((box_below w5 (.cells (gv (add r x) v') 26)).mono HW5.out.size);
               have HG6 := Lib.hid (show Gd (w5.alloc (.cells (gv (add r x) v') 26)) 0 nmI (add r x) v' from ⟨(HRL5.out.below (box_below w5 (.cells (gv (add r x) v') 26))).base (Nat.zero_le _), nm_I, Wf.add HWF.out XG.out (by omega), HC2.out⟩);
               have HN := Lib.hid (heap_alloc_new w5 (.cells (gv (add r x) v') 26));
               have X6 := Lib.hid ((hb6.block X (row_lt XK.out)).trans XK.out);
               have Q6 := Lib.hid ((hb6.block Q (row_lt QK.out)).trans QK.out);
               have HB6 := Lib.hid (HBK.out.trans (hb6.mono HBK.out.size));
               clear HRL5 HW5 hb6 x0 x1 x2 x3 x4 g0 g1;
               generalize w5.heap.size = N at *; generalize w5.alloc (.cells (gv (add r x) v') 26) = W6 at *;
               obtain ⟨u0, u1⟩ := gvCells HN.out;
               obtain ⟨q0, q1⟩ := gvCells Q6.out;
               obtain ⟨x0, x1, x2, x3, x4⟩ := kxCells X6.out;
               have HY := Lib.hid (fun w' (hw : Below W6.heap.size W6 w') => yes_all 0 r v' x w' (HG6.out.below hw) hfu);
               simp only [gv] at HY;
               have HK6 := Lib.hid (fun w' (hw : Below W6.heap.size W6 w') => (⟨gvCells ((hw.block N (row_lt HN.out)).trans HN.out), kxCells ((hw.block X (row_lt X6.out)).trans X6.out)⟩ : _ ∧ _));
               have hb0 : Below W6.heap.size W6 W6 := Below.refl _ _)
            | (go_at_call 14; (with_reducible refine ((HY.out _ ?_).1).mono ?_); (with_reducible assumption); rintro e wa ⟨rfl, hba⟩; have hbn := Below.trans (by with_reducible assumption) (hba.mono (Below.size (by with_reducible assumption))); obtain ⟨⟨u0, u1⟩, x0, x1, x2, x3, x4⟩ := HK6.out _ hbn; clear hba)
            | (go_at_call 18; (with_reducible refine ((HY.out _ ?_).2.1).mono ?_); (with_reducible assumption); rintro e wb ⟨rfl, hba⟩; have hbn2 := hbn.trans (hba.mono hbn.size); obtain ⟨⟨u0, u1⟩, x0, x1, x2, x3, x4⟩ := HK6.out _ hbn2; clear hba)
            | (go_at_call 18; (with_reducible refine ((HY.out _ ?_).2.2.1).mono ?_); (with_reducible assumption); rintro e wc ⟨rfl, hba⟩; have hbn3 := hbn2.trans (hba.mono hbn2.size); obtain ⟨⟨u0, u1⟩, x0, x1, x2, x3, x4⟩ := HK6.out _ hbn3; clear hba)
            | (go_at_call 25; (with_reducible refine ((HY.out _ ?_).2.2.2).mono ?_); (with_reducible assumption); rintro e wd ⟨A, n, cc, rfl, hh, hba⟩; have hbn4 := hbn3.trans (hba.mono hbn3.size); have HH := Lib.hid hh; clear hba hh)
            | (go_at_call 33; (with_reducible refine HH.out.mono ?_); rintro e we ⟨rfl, rfl⟩)
            | (go_at_call 9; refine (awake_any _).mono ?_; rintro e w9 ⟨rfl, hb9⟩; have HB9 := Lib.hid (hbn4.trans (hb9.mono hbn4.size)); clear hb9))
          go_ret
          exact ⟨rfl, HB6.out.trans (HB9.out.mono HB6.out.size)⟩
        · have hak : anyB (full r x) (x.u - x.f) = true := by
            cases h : anyB (full r x) (x.u - x.f) with
            | true => rfl
            | false => exact absurd ((room_iff hfu).1 h) hro
          have hcr2 : crowd (add r x) = true := by
            cases h : crowd (add r x) with
            | true => rfl
            | false => exact absurd ((add_crowd HCR.out).1 h) hro
          rw [hak]
          have his := issue_no (w.heap.size + 1) r v x wr HGK.out XG.out hcr2 (by omega)
          simp only [gv, kc] at his
          have HIS := Lib.hid his
          clear his hcr2 hro hak
          go_wp2_with (first
            | (go_at_call 31; (with_reducible refine HIS.out.mono ?_); rintro e w5 ⟨rfl, h3⟩)
            | (with_reducible (show wpList _ _ _ (⟨none, .store 26 (.tmp 8) (.tmp 46), _, _, _, _⟩ :: _) _ _); refine wpList_store_row (o := ⟨none, .store 26 (.tmp 8) (.tmp 46), _, _, _, _⟩) rfl 26 (.tmp 8) (.tmp 46) rfl w5.heap.size zG rfl rfl 26 zG (heap_alloc_new _ _) infoZ rfl zg_one ?_; rw [new_set];
               have hb6 : Below wr.heap.size wr (w5.alloc (.cells zG 26)) := h3.trans ((box_below w5 (.cells zG 26)).mono h3.size);
               have HB6 := Lib.hid (HBK.out.trans (hb6.mono HBK.out.size));
               clear h3 hb6 x0 x1 x2 x3 x4 g0 g1;
               generalize w5.heap.size = N at *; generalize w5.alloc (.cells zG 26) = W6 at *)
            | (go_at_call 9; refine (awake_any _).mono ?_; rintro e w9 ⟨rfl, hb9⟩; have HB9 := Lib.hid hb9; clear hb9))
          go_ret
          exact ⟨rfl, HB6.out.trans (HB9.out.mono HB6.out.size)⟩

/-! ### THE ROW's STEP: WRITTEN OUT: LEAVE IT -/
set_option maxRecDepth 100000 in
theorem lifted (os : Os) (started : os.Started) (H : Type) (enc : TypeId × Value → H) :
    ReturnsInHanded {} Try.checked os 5 .any (Rows.registryIssuesSpec.pre6 enc Try.prog Try.f5 Rows.registryIssuesRow.domain false) (Rows.registryIssuesSpec.post enc Try.prog Try.f5 false true false false) := by
  refine returnsInHanded_of_change (C := Try.checked) own started (by kernel_rfl) Try.func5
    (ChangeSpec.witness6 (enc := enc) (C := Try.checked) false ⟨#[], #[.slice none 0 0], []⟩ 8 (by kernel_rfl) (by kernel_rfl) (by kernel_rfl) (by kernel_rfl)) ?_
  intro W base args ds gs before hval0 hW hcnd _
  have hval : ∀ (j : Nat) t v, Try.f5.params[j]? = some t → args[j]? = some v → Value.okWide Try.prog W .any base t v := hval0
  have hW' := hW
  obtain ⟨p, q, hA0, hV, rfl, hfz, hnd⟩ := hW
  have hA : DataW.TrodAll enc Try.prog W 0 (fun _ => true) true Try.f5.params.toList args.toList ds p := hA0
  rw [Try.params5] at hA hval
  obtain ⟨v0, vs0, d0, ds0, p0, q0, hargs, rfl, rfl, h0, r0⟩ := trodAll_cons hA
  obtain ⟨rfl, rfl, rfl⟩ := trodAll_nil r0
  obtain rfl : args = #[v0] := by cases args; simp_all
  obtain ⟨rfl, rfl⟩ := trodVars_none hV
  obtain ⟨a0, len0, cap0, rfl⟩ := okWide_slice Try.underlying22 (hval 0 22 v0 rfl rfl)
  have k0 := h0
  have lt0 : ∀ x ∈ p0, x.block < W.heap.size := by obtain ⟨m, hm⟩ := k0; exact DataW.trod_lt m _ _ _ hm
  obtain ⟨z0, w0⟩ : ∃ zs, IsRow .i64 W a0 len0 cap0 zs := by
    obtain ⟨fuel, hf⟩ := h0
    rcases open_ints Try.underlying22 Try.underlying3 (by kernel_rfl) hf with ⟨hcs, _⟩ | ⟨x, l, c, zs, hcs, _, hl, hm, hz, _, hcell, hwz⟩
    · simp [Value.cells] at hcs
      obtain ⟨rfl, rfl, rfl⟩ := hcs
      exact ⟨[], .inl ⟨rfl, rfl, rfl, rfl⟩⟩
    · simp [Value.cells] at hcs
      obtain ⟨rfl, rfl, rfl⟩ := hcs
      exact ⟨zs, .inr ⟨_, rfl, hl, hm, by simpa using hz, hcell, hwz⟩⟩
  clear hA0 hval0
  refine (walk a0 len0 cap0 z0 W w0).mono fun e W' ⟨he, bel⟩ => ?_
  subst he
  exact ⟨_, rfl, _, _, _, [], _, [], hW', trodAll_mk1 (shut_bool Try.underlying4 _), (trodAll_cons_mk (Below.trod laidOut (by kernel_rfl) (of_decide_eq_true (by kernel_rfl)) k0 bel lt0) trodAll_mk0), rfl, bel.frame _, fun h => by cases h⟩

theorem over : Rows.registryIssuesRow.holds Try.pinned (OpenSpec.ofChange Rows.registryIssuesSpec) :=
  OpenClaim.holds_of_wide 5 Try.f5 rfl rfl rfl rfl rfl rfl rfl ⟨rfl, rfl, rfl, rfl, rfl⟩ rfl rfl rfl rfl rfl (by kernel_rfl) Try.func5 (by kernel_rfl)
    (of_decide_eq_true (by kernel_rfl)) (by unfold Func.isWrapper; first | (rw [if_pos (by decide +kernel)]; kernel_rfl) | (rw [if_neg (by decide +kernel)]; exact ⟨rfl, rfl⟩))
    (fun os started H enc _ => lifted os started H enc)

/-- ████ THE STATEMENT ████ -/
theorem proved : Rows.RegistryIssuesSaid := over
#print axioms proved
end Go.Proofs.Ytablgpcgfogfoaa.registryIssues
