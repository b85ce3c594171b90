/-
  The Go function leakresponse/leakresponselaw28.ReadersGroups returns true for every list of numbers, and leaves what was there as it was; no conditions. A grant for a group lets in the same readers as a grant for each of its members at this time.
-/
import Derived.Test.YtgknfkmojhganaaRdAll
import Derived.Test.YtgknfkmojhganaaRows
import Derived.Test.YtgknfkmojhganaaRdQ
import Derived.Test.YtgknfkmojhganaaAcK
import Derived.BigQuiet
import Derived.Deep.RegionHeld3
import Derived.WalkKit
import Derived.ProofKit
import Derived.OpenShut
import Derived.ShutString
import Derived.ChangeOld
import Derived.Below
import Derived.StillTailTactics
import Derived.Deep.CutBlock
namespace Go.Proofs.Ytgknfkmojhganaa.readersGroups
open Go.ChangeShapes Go.WideShapes Go.ChangeAt Go.RowKit
open Go.ChangeMaps (open_string shut_string)
open Go.Proofs.Ytgknfkmojhganaa.Tp
open Go.Proofs.Ytgknfkmojhganaa.Di
set_option linter.unusedVariables false

set_option maxRecDepth 100000 in
set_option maxHeartbeats 16000000 in
theorem walk (a0 : Option Addr) (len0 cap0 : Nat) (z0 : List Int) (w : World) (w0 : IsRow .i64 w a0 len0 cap0 z0) :
    Calls Try.prog 6 #[.slice a0 len0 cap0] w fun e w' => e = .returned (.bool true) ∧ Below w.heap.size w w' := by
  have hm := w0.at_.1
  unfold maxLen at hm
  have HTP := Lib.hid (tape_new w0)
  have HBX := Lib.hid (box_below w (.cells #[.slice a0 len0 cap0, .int .i64 0] 26))
  clear w0
  by_cases hlen : 400 < len0
  · have hl0 : (400 : Int) < (len0 : Int) := by omega
    go_enter Try.func6, Try.ntmps6
    go_wp2_with (go_at_call 8; refine (awake_any _).mono ?_; rintro e w1 ⟨rfl, hb1⟩; have HB1 := Lib.hid hb1; clear hb1)
    go_ret
    exact ⟨rfl, HB1.out⟩
  · have hl0 : (len0 : Int) ≤ (400 : Int) := by omega
    go_enter Try.func6, Try.ntmps6
    go_wp2_with fail
    refine (directory_any w.heap.size _ HTP.out (by simp)).mono ?_
    rintro e w1 ⟨d, ⟨D1, dc1, D2, dc2⟩, rfl, hmk, hrl, hg1, ht1⟩
    have hb1 : Below w.heap.size w w1 := HBX.out.grown hg1 HBX.out.size (fun k e => by cases e; exact Nat.le_refl _)
    have hs1 := hg1.size
    simp at hs1
    have HQ := Lib.hid (heap_alloc_new w1 (.cells (gd d ⟨D1, dc1, D2, dc2⟩) 29))
    have HDL := Lib.hid ((hrl.base (show w.heap.size + 1 ≤ _ by simp)).below (box_below w1 (.cells (gd d ⟨D1, dc1, D2, dc2⟩) 29)))
    have HB1 := Lib.hid (hb1.trans ((box_below w1 (.cells (gd d ⟨D1, dc1, D2, dc2⟩) 29)).mono hb1.size))
    have HT1 := Lib.hid (tape_new2 ht1 (.cells (gd d ⟨D1, dc1, D2, dc2⟩) 29))
    have HMK := Lib.hid hmk
    have hn1 := hmk.n1
    have hn7 := hmk.n7
    have he11 := hmk.e11
    have lT1 : w.heap.size < w1.heap.size := by omega
    clear hrl hg1 ht1 hb1 hmk
    obtain ⟨g0, g1⟩ := gdCells HQ.out
    have HFD := Lib.hid (show (#[.slice D1 d.k.length dc1, .slice D2 d.e.length dc2] : Array Value) = gd d ⟨D1, dc1, D2, dc2⟩ from rfl)
    go_wp2_with (with_reducible (show wpList _ _ _ (⟨none, .store 29 (.tmp 4) (.tmp 24), _, _, _, _⟩ :: _) _ _); refine wpList_store_row (o := ⟨none, .store 29 (.tmp 4) (.tmp 24), _, _, _, _⟩) rfl 29 (.tmp 4) (.tmp 24) rfl w1.heap.size (gd d ⟨D1, dc1, D2, dc2⟩) rfl rfl 29 zD (heap_alloc_new _ _) (info25 _ _) rfl (gd_one _ _) ?_; rw [new_set])
    have lQ : w1.heap.size < (w1.alloc (.cells (gd d ⟨D1, dc1, D2, dc2⟩) 29)).heap.size := row_lt HQ.out
    generalize w1.alloc (.cells (gd d ⟨D1, dc1, D2, dc2⟩) 29) = WA at *
    generalize w1.heap.size = Q at *
    rw [HFD.out]
    refine (groups_any _ d ⟨D1, dc1, D2, dc2⟩ WA HDL.out (by omega)).mono ?_
    rintro e w3 ⟨Ag, cg, rfl, hown3, hb3⟩
    have hcn := cnt_le (gB d) d.k.length
    have hpm : ∀ r, r < cnt (gB d) d.k.length → (idx (gB d) d.k.length).getD r 0 < d.k.length ∧ gB d ((idx (gB d) d.k.length).getD r 0) = true := fun r hr => at_idx hr
    generalize cnt (gB d) d.k.length = n1 at *
    generalize idx (gB d) d.k.length = L1 at *
    have HPM := Lib.hid hpm
    have HR3 := Lib.hid (row_of_own hown3)
    have B3 := Lib.hid hb3
    have HT3 := Lib.hid (tape_below HT1.out (hb3.mono (by have := HB1.out.size; omega)))
    have HB3 := Lib.hid (HB1.out.trans (hb3.mono HB1.out.size))
    have HQ3 := Lib.hid ((hb3.block _ lQ).trans HQ.out)
    have HDO := Lib.hid HMK.out.ok
    have HD3 := Lib.hid (HDL.out.below hb3)
    have lQ3 : Q < w3.heap.size := row_lt HQ3.out
    have hsz3 := hb3.size
    have hszA := HB1.out.size
    clear hpm hown3 hb3 HB1 HT1 HBX HTP HQ HDL g0 g1
    by_cases h0 : n1 = 0
    · have e0 : ((n1 : Int) == 0) = true := by rw [h0]; rfl
      clear h0
      go_wp2_with (go_at_call 8; refine (awake_any _).mono ?_; rintro e w9 ⟨rfl, hb9⟩; have HB9 := Lib.hid (HB3.out.trans (hb9.mono HB3.out.size)); clear hb9)
      go_ret
      exact ⟨rfl, HB9.out⟩
    · have e0 : ((n1 : Int) == 0) = false := beq_eq_false_iff_ne.2 (by omega)
      have hT3 : w.heap.size < w3.heap.size := by omega
      obtain ⟨b, off, hAg, -, lb, -⟩ := HR3.out.int (i := 0) (by omega)
      subst hAg
      have hcells : ∀ w', w3.grownBy w' (some w.heap.size) → ∀ r, r < n1 → w'.cell? ⟨b, off + r, none⟩ = some (.int .i64 ((L1.getD r 0 : Nat) : Int)) := fun w' hg r hr => by
        have hr3 : Row w3 WA.heap.size 1 (some ⟨b, off, none⟩) n1 (iv L1) := HR3.out
        obtain ⟨b', off', e, -, -, y⟩ := (hr3.grown hg (fun g e => by cases e; omega)).int hr
        cases e
        exact y
      have hnx1 := fun w' (h : TapeOk w' w.heap.size) => next_any w.heap.size n1 w' h (by omega) (by omega)
      have hnx2 := fun w' (h : TapeOk w' w.heap.size) => next_any w.heap.size 24 w' h (by omega) (by omega)
      have HNX1 := Lib.hid hnx1
      have HNX2 := Lib.hid hnx2
      have hk : ∀ w', w3.grownBy w' (some w.heap.size) → TapeOk w' w.heap.size → ((∀ r, r < n1 → w'.cell? ⟨b, off + r, none⟩ = some (.int .i64 ((L1.getD r 0 : Nat) : Int))) ∧ w3.grownBy w' (some w.heap.size) ∧ TapeOk w' w.heap.size) := fun w' hg ht =>
        ⟨hcells w' hg, hg, ht⟩
      have HK := Lib.hid hk
      have HM1 := Lib.hid True.intro
      have gd0 : w3.grownBy w3.drew (some w.heap.size) := gb_drewN w3 1 _
      have td0 : TapeOk w3.drew w.heap.size := HT3.out
      clear hcells hnx1 hnx2 hk h0
      go_wp2_with fail
      go_region_held3 (fun w' => (∀ r, r < n1 → w'.cell? ⟨b, off + r, none⟩ = some (.int .i64 ((L1.getD r 0 : Nat) : Int))) ∧ w3.grownBy w' (some w.heap.size) ∧ TapeOk w' w.heap.size)
        (first | (with_reducible assumption) | (with_reducible exact HK.out _ gd0 td0) | (with_reducible exact HK.out _ ga ta) | (with_reducible exact HK.out _ gn tn))
        (first
          | (go_at_call 11; (with_reducible refine (HNX1.out _ ?_).mono ?_); (go_split_ands; with_reducible assumption); rintro e wm ⟨zi, a1, b1, rfl, hga, hta⟩; obtain ⟨r, rfl⟩ : ∃ z : Nat, zi = z := ⟨zi.toNat, by omega⟩; go_split_ands; have ga : w3.grownBy wm (some w.heap.size) := gb_trans (by with_reducible assumption) hga; have ta := hta; have r0 : (0 : Int) ≤ (r : Int) := (by omega); have r1 : (r : Int) < (n1 : Int) := (by omega); have r2 : r < n1 := (by omega); clear hga hta)
          | (go_at_call 11; (with_reducible refine (HNX2.out _ ?_).mono ?_); (go_split_ands; with_reducible assumption); rintro e wn ⟨zj, a2, b2, rfl, hgn, htn⟩; obtain ⟨T, rfl⟩ : ∃ z : Nat, zj = z := ⟨zj.toNat, by omega⟩; go_split_ands; have gn : w3.grownBy wn (some w.heap.size) := gb_trans (by with_reducible assumption) hgn; have tn := htn; clear hgn htn))
      obtain ⟨hgl, hg2⟩ := HPM.out r r2
      rw [List.getD_eq_getElem?_getD] at hgl hg2
      generalize L1[r]?.getD 0 = g at *
      go_split_ands
      have hgn : w3.grownBy wn (some w.heap.size) := gn
      have BN := Lib.hid (HB3.out.grown hgn HB3.out.size (fun k e => by cases e; exact Nat.le_refl _))
      have HQN := Lib.hid ((hgn.block Q lQ3 (fun e => by injection e; omega)).trans HQ3.out)
      have HDN := Lib.hid (HD3.out.grown hgn (fun g e => by cases e; omega))
      have hT : T < 24 := by omega
      have HG2 := Lib.hid hg2
      clear ga ta gn tn hgn gd0 td0 a1 b1 a2 b2 r0 r1 r2 hg2 HK HNX1 HNX2 HPM HR3 B3 HT3 HB3 HQ3 HD3
      go_upto_region 11 with fail
      have hbK := box_below wn (.cells #[.int .i64 (T : Int), .int .i64 1, .int .i64 0, .int .i64 (g : Int), .int .i64 0, .int .i64 0, .int .i64 0] 57)
      have hbO := box_below (wn.alloc (.cells #[.int .i64 (T : Int), .int .i64 1, .int .i64 0, .int .i64 (g : Int), .int .i64 0, .int .i64 0, .int .i64 0] 57)) (.cells #[.int .i64 1, .slice (some ⟨wn.heap.size, 0, none⟩) 1 1] 33)
      have hb8 := hbK.trans (hbO.mono (by simp))
      have hK8 := (heap_alloc_old (wn.alloc (.cells #[.int .i64 (T : Int), .int .i64 1, .int .i64 0, .int .i64 (g : Int), .int .i64 0, .int .i64 0, .int .i64 0] 57)) (.cells #[.int .i64 1, .slice (some ⟨wn.heap.size, 0, none⟩) 1 1] 33) (by simp)).trans (heap_alloc_new wn (.cells #[.int .i64 (T : Int), .int .i64 1, .int .i64 0, .int .i64 (g : Int), .int .i64 0, .int .i64 0, .int .i64 0] 57))
      have hO8 := heap_alloc_new (wn.alloc (.cells #[.int .i64 (T : Int), .int .i64 1, .int .i64 0, .int .i64 (g : Int), .int .i64 0, .int .i64 0, .int .i64 0] 57)) (.cells #[.int .i64 1, .slice (some ⟨wn.heap.size, 0, none⟩) 1 1] 33)
      rw [show (wn.alloc (.cells #[.int .i64 (T : Int), .int .i64 1, .int .i64 0, .int .i64 (g : Int), .int .i64 0, .int .i64 0, .int .i64 0] 57)).heap.size = wn.heap.size + 1 by simp] at hO8
      have hZs : ((wn.alloc (.cells #[.int .i64 (T : Int), .int .i64 1, .int .i64 0, .int .i64 (g : Int), .int .i64 0, .int .i64 0, .int .i64 0] 57)).alloc (.cells #[.int .i64 1, .slice (some ⟨wn.heap.size, 0, none⟩) 1 1] 33)).heap.size = wn.heap.size + 1 + 1 := by simp
      have hb9 := box_below ((wn.alloc (.cells #[.int .i64 (T : Int), .int .i64 1, .int .i64 0, .int .i64 (g : Int), .int .i64 0, .int .i64 0, .int .i64 0] 57)).alloc (.cells #[.int .i64 1, .slice (some ⟨wn.heap.size, 0, none⟩) 1 1] 33)) (.cells #[.int .i64 1, .slice none 0 0] 33)
      have hZ9 := heap_alloc_new ((wn.alloc (.cells #[.int .i64 (T : Int), .int .i64 1, .int .i64 0, .int .i64 (g : Int), .int .i64 0, .int .i64 0, .int .i64 0] 57)).alloc (.cells #[.int .i64 1, .slice (some ⟨wn.heap.size, 0, none⟩) 1 1] 33)) (.cells #[.int .i64 1, .slice none 0 0] 33)
      rw [hZs] at hZ9
      have HB8 := Lib.hid (BN.out.trans (hb8.mono BN.out.size))
      have HQ8 := Lib.hid ((hb8.block _ (row_lt HQN.out)).trans HQN.out)
      have HD8 := Lib.hid ((HDN.out.below hb8).base (Nat.zero_le _))
      have HK8 := Lib.hid hK8
      have HO8 := Lib.hid (show ((wn.alloc (.cells #[.int .i64 (T : Int), .int .i64 1, .int .i64 0, .int .i64 (g : Int), .int .i64 0, .int .i64 0, .int .i64 0] 57)).alloc (.cells #[.int .i64 1, .slice (some ⟨wn.heap.size, 0, none⟩) 1 1] 33)).heap[wn.heap.size + 1]? = some (.cells (ge ⟨1, gl (T : Int) [g]⟩ ⟨some ⟨wn.heap.size, 0, none⟩, 1⟩) 33 (0, 0)) from hO8)
      have lQN : Q < wn.heap.size := row_lt HQN.out
      have HMB0 := Lib.hid (rmem_any d ⟨D1, dc1, D2, dc2⟩ g T (((wn.alloc (.cells #[.int .i64 (T : Int), .int .i64 1, .int .i64 0, .int .i64 (g : Int), .int .i64 0, .int .i64 0, .int .i64 0] 57)).alloc (.cells #[.int .i64 1, .slice (some ⟨wn.heap.size, 0, none⟩) 1 1] 33)).alloc (.cells #[.int .i64 1, .slice none 0 0] 33)) (HD8.out.below hb9) HDO.out HG2.out hgl)
      clear hbK hbO hb8 hK8 hO8 BN HQN HDN
      generalize ((wn.alloc (.cells #[.int .i64 (T : Int), .int .i64 1, .int .i64 0, .int .i64 (g : Int), .int .i64 0, .int .i64 0, .int .i64 0] 57)).alloc (.cells #[.int .i64 1, .slice (some ⟨wn.heap.size, 0, none⟩) 1 1] 33)) = W8 at *
      have HZ9 := Lib.hid (show (W8.alloc (.cells #[.int .i64 1, .slice none 0 0] 33)).heap[wn.heap.size + 1 + 1]? = some (.cells (ge ⟨1, gl (T : Int) []⟩ ⟨none, 0⟩) 33 (0, 0)) from hZ9)
      have HB9 := Lib.hid hb9
      have hs9 : (W8.alloc (.cells #[.int .i64 1, .slice none 0 0] 33)).heap.size = wn.heap.size + 1 + 1 + 1 := by simp [hZs]
      clear hZ9 hb9
      generalize W8.alloc (.cells #[.int .i64 1, .slice none 0 0] 33) = W9 at *
      generalize wn.heap.size = K at *
      have hmb := HMB0.out
      unfold SmPost at hmb
      have hnm := cnt_le (memB d T g) d.k.length
      have hil := idx_len (memB d T g) d.k.length
      obtain ⟨q0, q1⟩ := gdCells ((HB9.out.block Q (by omega)).trans HQ8.out)
      generalize hNM : cnt (memB d T g) d.k.length = nm at *
      generalize hLM : idx (memB d T g) d.k.length = LM at *
      have HMB := Lib.hid hmb
      have HNM := Lib.hid hNM
      have HLM := Lib.hid hLM
      have HIL := Lib.hid hil
      clear hmb HMB0 hNM hLM hil
      go_wp2_with (go_at_call 24; rw [HFD.out]; (with_reducible refine HMB.out.mono ?_); rintro e w5 ⟨X, mc, rfl, hown, hb5⟩; have HX5 := Lib.hid (row_of_own hown); have H95 := Lib.hid (HB9.out.trans (hb5.mono HB9.out.size)); have HZ5 := Lib.hid ((hb5.block _ (row_lt HZ9.out)).trans HZ9.out); have hs5 := hb5.size; clear hb5 hown q0 q1)
      have HBZ := Lib.hid (fun wr (hg : w5.grownBy wr (some (K + 1 + 1))) => gb_below H95.out hg (by omega))
      obtain ⟨j0, hj1, hy0, hy1, hy2⟩ := info_parts zinfoAc
      have HJ := Lib.hid hj1
      have HJ0 := Lib.hid hy0
      have HJ1 := Lib.hid hy1
      have HJ2 := Lib.hid hy2
      clear hj1 hy0 hy1 hy2
      go_loopw [51] (fun ii wr => ∃ k : Nat, k ≤ nm ∧ ii = .int .i64 (k : Int) ∧ CRel w5.heap.size (K + 1 + 1) 1 (gl (T : Int) (LM.take k)) wr ∧ w5.grownBy wr (some (K + 1 + 1))) (fun ii _ => nm - (intOf ii).toNat)
      case atStart => exact ⟨0, by omega, rfl, ⟨none, 0, HZ5.out, own_nil _ _ _ _⟩, gb_row (gb_of_below (Below.refl _ _))⟩
      case round =>
        obtain ⟨k, hk, rfl, ⟨A', c', hc, ho⟩, hgb⟩ := hrel
        have HC := Lib.hid hc
        have HO := Lib.hid ho
        have HGW := Lib.hid hgb
        have hszr := hgb.size
        obtain ⟨v0, v1⟩ := geCells hc
        have q1 : wr.frozen? ⟨K + 1 + 1, 1, none⟩ = false := frozen_of_row _ _ _ _ _ hc
        have HXR := Lib.hid (HX5.out.grown hgb (fun g e => by cases e; omega))
        clear hc ho hgb
        by_cases hlt : k < nm
        · obtain ⟨b, off, hX, -, -, y0⟩ := HXR.out.int hlt
          subst hX
          have HTS := Lib.hid (show LM.take (k + 1) = LM.take k ++ [LM.getD k 0] by
            rw [List.take_succ_eq_append_getElem (by rw [HIL.out]; exact hlt), List.getD_eq_getElem?_getD, List.getElem?_eq_getElem (by rw [HIL.out]; exact hlt)]
            rfl)
          generalize LM.getD k 0 = x at *
          have HTK := Lib.hid (show gl (T : Int) (LM.take (k + 1)) = gl (T : Int) (LM.take k) ++ [⟨(T : Int), 1, 0, (x : Int), 0, 0, 0⟩] by rw [HTS.out, gl_snoc])
          have hll : (gl (T : Int) (LM.take k)).length ≤ 24 := by rw [gl_len, List.length_take]; omega
          have k0 : (0 : Int) ≤ (k : Int) := by omega
          have k1 : (k : Int) < (nm : Int) := by omega
          generalize gl (T : Int) (LM.take k) = L at *
          go_wp2_with (at_builtin; refine wpList_append_own _ rfl (.tmp 56) (.tmp 60) 31 rfl w5.heap.size 57 j0 (.agg #[.int .i64 0, .int .i64 0, .int .i64 0, .int .i64 0, .int .i64 0, .int .i64 0, .int .i64 0]) 7 56 Try.underlying31 HJ.out HJ0.out HJ1.out HJ2.out rfl (by decide) _ L.length (av L) rfl (HO.out.alloc _) ⟨wr.heap.size, 0, none⟩ 1 1 [.int .i64 (T : Int), .int .i64 1, .int .i64 0, .int .i64 (x : Int), .int .i64 0, .int .i64 0, .int .i64 0] rfl rfl (World.news_of_block (heap_alloc_new wr _)) (by simp [Value.oneCell']) (by unfold maxLen; omega) (by omega) (by simp; omega) ?_; intro v' w12 hown hgr _; obtain ⟨A2, c2, rfl⟩ := own_form hown; have Q12 := Lib.hid (crel_q HC.out HO.out hgr); have HADD := Lib.hid (crel_add (x := ⟨(T : Int), 1, 0, (x : Int), 0, 0, 0⟩) HC.out HO.out hgr hown); have G12 := Lib.hid (gb_own (gb_trans HGW.out (gb_row (gb_of_below (box_below _ _)))) hgr (fun g e => (HO.out.lt g e).1)); clear hown hgr; obtain ⟨r0, r1⟩ := geCells Q12.out; have r2 : w12.frozen? ⟨K + 1 + 1, 1, none⟩ = false := frozen_of_row _ _ _ _ _ Q12.out)
          rw [setCell_eq_setRow w12 (K + 1 + 1) 1 _ _ _ _ Q12.out]
          exact ⟨⟨k + 1, by omega, by go_num, by rw [HTK.out]; exact HADD.out, gb_trans G12.out (gb_setRow _ _ _)⟩, by simp [intOf]; omega⟩
        · obtain rfl : k = nm := by omega
          have HTA := Lib.hid (show LM.take k = LM from List.take_of_length_le (by rw [HIL.out]; exact Nat.le_refl _))
          have hc7 := HC.out
          have ho7 := HO.out
          rw [HTA.out] at hc7 ho7 v1
          rename World => W7
          have HEC := Lib.hid (show EL W7 0 ⟨1, gl (T : Int) LM⟩ ⟨A', c'⟩ from Row.base (B' := 0) (row_of_own ho7) (Nat.zero_le _))
          have HZ7 := Lib.hid (show W7.heap[K + 1 + 1]? = some (.cells (ge ⟨1, gl (T : Int) LM⟩ ⟨A', c'⟩) 33 (0, 0)) from hc7)
          have HB87 := Lib.hid (HBZ.out _ HGW.out)
          have HQ7 := Lib.hid ((HB87.out.block Q (by omega)).trans HQ8.out)
          have HO7 := Lib.hid ((HB87.out.block (K + 1) (by omega)).trans HO8.out)
          have HD7 := Lib.hid (HD8.out.below HB87.out)
          have hk7 := (HB87.out.block K (by omega)).trans HK8.out
          have HE1 := Lib.hid (show EL W7 0 ⟨1, gl (T : Int) [g]⟩ ⟨some ⟨K, 0, none⟩, 1⟩ from row_blk hk7 rfl)
          have HX7 := Lib.hid (HXR.out.base (Nat.zero_le _))
          have HW7 := Lib.hid (HB8.out.trans (HB87.out.mono HB8.out.size))
          have OK1 := Lib.hid (show Eok ⟨1, gl (T : Int) [g]⟩ from gl_ok (by omega) (by omega) (by simp) (fun j hj => by
            have : j = 0 := by simp at hj; exact hj
            subst this
            show g < 24
            omega))
          have OK2 := Lib.hid (show Eok ⟨1, gl (T : Int) LM⟩ from gl_ok (by omega) (by omega) (by rw [HIL.out]; omega) (fun j hj => by
            have h1 := (at_idx (p := memB d T g) (n := d.k.length) (j := j) (by rw [HNM.out, ← HIL.out]; exact hj)).1
            rw [HLM.out] at h1
            omega))
          have HWA := Lib.hid (show ∀ w', Below W7.heap.size W7 w' → Calls Try.prog 18 #[.agg (gd d ⟨D1, dc1, D2, dc2⟩), .agg (ge ⟨1, gl (T : Int) [g]⟩ ⟨some ⟨K, 0, none⟩, 1⟩), .int .i64 0, .int .i64 (T : Int)] w' fun e w2 => ∃ X cc, e = .returned (.tuple #[.agg #[.bool false, .slice X k cc], .int .i64 0]) ∧ Row w2 w'.heap.size 1 X k (iv LM) ∧ Below w'.heap.size w' w2 from fun w' hw => by
            have h := who_any d ⟨D1, dc1, D2, dc2⟩ ⟨1, gl (T : Int) [g]⟩ ⟨some ⟨K, 0, none⟩, 1⟩ 0 T w' (HD7.out.below hw) HDO.out (Row.below HE1.out hw) OK1.out (by show (0 : Int) < 1; omega)
            unfold WoPost at h
            rw [show (fun p => mayB d ⟨1, gl (T : Int) [g]⟩ p 0 T) = memB d T g from funext (fun p => may_one HDO.out (by omega) HG2.out hgl p)] at h
            have hl : lkA (⟨1, gl (T : Int) [g]⟩ : Es).e ((0 : Nat) : Int) (T : Int) = none := gl_lk _ _
            rw [hl, HNM.out, HLM.out] at h
            exact h)
          have HWC := Lib.hid (show ∀ w', Below W7.heap.size W7 w' → Calls Try.prog 18 #[.agg (gd d ⟨D1, dc1, D2, dc2⟩), .agg (ge ⟨1, gl (T : Int) LM⟩ ⟨A', c'⟩), .int .i64 0, .int .i64 (T : Int)] w' fun e w2 => ∃ X cc, e = .returned (.tuple #[.agg #[.bool false, .slice X k cc], .int .i64 0]) ∧ Row w2 w'.heap.size 1 X k (iv LM) ∧ Below w'.heap.size w' w2 from fun w' hw => by
            have h := who_any d ⟨D1, dc1, D2, dc2⟩ ⟨1, gl (T : Int) LM⟩ ⟨A', c'⟩ 0 T w' (HD7.out.below hw) HDO.out (Row.below HEC.out hw) OK2.out (by show (0 : Int) < 1; omega)
            unfold WoPost at h
            rw [show (fun p => mayB d ⟨1, gl (T : Int) LM⟩ p 0 T) = memB d T g from funext (fun p => by rw [← HLM.out]; exact may_each HDO.out (by omega) p)] at h
            have hl : lkA (⟨1, gl (T : Int) LM⟩ : Es).e ((0 : Nat) : Int) (T : Int) = none := gl_lk _ _
            rw [hl, HNM.out, HLM.out] at h
            exact h)
          have HM7 := Lib.hid (fun w' (hw : Below W7.heap.size W7 w') => by
            have h := rmem_any d ⟨D1, dc1, D2, dc2⟩ g T w' (HD7.out.below hw) HDO.out HG2.out hgl
            unfold SmPost at h
            rw [HNM.out, HLM.out] at h
            exact h)
          have hgl1 : (gl (T : Int) [g]).length = 1 := rfl
          have hglk : (gl (T : Int) LM).length = k := by rw [gl_len, HIL.out]
          have HFO := Lib.hid (show (#[.int .i64 1, .slice (some ⟨K, 0, none⟩) 1 1] : Array Value) = ge ⟨1, gl (T : Int) [g]⟩ ⟨some ⟨K, 0, none⟩, 1⟩ from rfl)
          have HFZ := Lib.hid (show (#[.int .i64 1, .slice A' k c'] : Array Value) = ge ⟨1, gl (T : Int) LM⟩ ⟨A', c'⟩ by unfold ge; rw [show (⟨1, gl (T : Int) LM⟩ : Es).e.length = k from hglk])
          have hkp : ∀ w', Below W7.heap.size W7 w' → w'.cell? ⟨Q, 0, none⟩ = some (.slice D1 d.k.length dc1) ∧ w'.cell? ⟨Q, 1, none⟩ = some (.slice D2 d.e.length dc2) ∧ w'.cell? ⟨K + 1, 0, none⟩ = some (.int .i64 1) ∧ w'.cell? ⟨K + 1, 1, none⟩ = some (.slice (some ⟨K, 0, none⟩) 1 1) ∧ w'.cell? ⟨K + 1 + 1, 0, none⟩ = some (.int .i64 1) ∧ w'.cell? ⟨K + 1 + 1, 1, none⟩ = some (.slice A' k c') := fun w' hw => by
            have a1 := gdCells ((hw.block _ (row_lt HQ7.out)).trans HQ7.out)
            have a2 := geCells ((hw.block _ (row_lt HO7.out)).trans HO7.out)
            have a3 := geCells ((hw.block _ (row_lt HZ7.out)).trans HZ7.out)
            have h2 := a3.2
            rw [show (⟨1, gl (T : Int) LM⟩ : Es).e.length = k from hglk] at h2
            exact ⟨a1.1, a1.2, a2.1, a2.2, a3.1, h2⟩
          have HKP := Lib.hid hkp
          clear hkp hk7 hc7 ho7 v0 v1 q1 hglk hgl1 HC HO HGW HXR
          obtain ⟨k1, k2, k3, k4, k5, k6⟩ := HKP.out _ (Below.refl _ _)
          go_upto_region 18 with (first
            | (go_at_call 18; rw [HFD.out, HFO.out]; (with_reducible refine (HWA.out _ (Below.refl _ _)).mono ?_); rintro e w8 ⟨X1, xc, rfl, hrow, hb8⟩; have hbn := box_below w8 (.cells #[.bool false, .slice X1 k xc] 47); have NX := Lib.hid (heap_alloc_new w8 (.cells #[.bool false, .slice X1 k xc] 47)); have B9 := Lib.hid (hb8.trans (hbn.mono hb8.size)); have RX := Lib.hid ((hrow.base (Nat.zero_le _)).below hbn); clear hb8 hrow hbn k1 k2 k3 k4 k5 k6 HWA; obtain ⟨k1, k2, k3, k4, k5, k6⟩ := HKP.out _ B9.out)
            | (go_at_call 18; rw [HFD.out, HFZ.out]; (with_reducible refine (HWC.out _ B9.out).mono ?_); rintro e wb ⟨Y1, yc, rfl, hrow, hbb⟩; have hbn := box_below wb (.cells #[.bool false, .slice Y1 k yc] 47); have NY := Lib.hid (heap_alloc_new wb (.cells #[.bool false, .slice Y1 k yc] 47)); have hbt := hbb.trans (hbn.mono hbb.size); have BB := Lib.hid (B9.out.trans (hbt.mono B9.out.size)); have RY := Lib.hid ((hrow.base (Nat.zero_le _)).below hbn); have RX2 := Lib.hid (RX.out.below hbt); have NX2 := Lib.hid ((hbt.block _ (row_lt NX.out)).trans NX.out); clear hbb hrow hbn hbt k1 k2 k3 k4 k5 k6))
          generalize wb.alloc (.cells #[.bool false, .slice Y1 k yc] 47) = WF at *
          have HSA := Lib.hid (show ∀ w', Below WF.heap.size WF w' → Calls Try.prog 25 #[.agg #[.bool false, .slice X1 k xc], .agg #[.bool false, .slice Y1 k yc]] w' fun e w2 => e = .returned (.bool true) ∧ Below w'.heap.size w' w2 from fun w' hw => same_any false X1 Y1 k xc yc LM w' (RX2.out.below hw) (RY.out.below hw) (by omega))
          have HMF := Lib.hid (fun w' (hw : Below WF.heap.size WF w') => HM7.out w' (BB.out.trans (hw.mono BB.out.size)))
          have HIN := Lib.hid (fun Zr zc w' (hw : Below WF.heap.size WF w') (hz : Row w' 0 1 Zr k (iv LM)) => ints_same X1 Zr k xc zc LM w' (RX2.out.below hw) hz (by omega))
          have hkq : ∀ w', Below WF.heap.size WF w' → w'.cell? ⟨w8.heap.size, 0, none⟩ = some (.bool false) ∧ w'.cell? ⟨w8.heap.size, 1, none⟩ = some (.slice X1 k xc) ∧ w'.cell? ⟨wb.heap.size, 0, none⟩ = some (.bool false) ∧ w'.cell? ⟨wb.heap.size, 1, none⟩ = some (.slice Y1 k yc) ∧ w'.cell? ⟨Q, 0, none⟩ = some (.slice D1 d.k.length dc1) ∧ w'.cell? ⟨Q, 1, none⟩ = some (.slice D2 d.e.length dc2) ∧ Below WF.heap.size WF w' := fun w' hw => by
            obtain ⟨x0, x1⟩ := auCells (b := false) (A := X1) (n := k) (c := xc) ((hw.block _ (row_lt NX2.out)).trans NX2.out)
            obtain ⟨y0, y1⟩ := auCells (b := false) (A := Y1) (n := k) (c := yc) ((hw.block _ (row_lt NY.out)).trans NY.out)
            have a1 := HKP.out w' (BB.out.trans (hw.mono BB.out.size))
            exact ⟨x0, x1, y0, y1, a1.1, a1.2.1, hw⟩
          have HKQ := Lib.hid hkq
          have bz1 : Below WF.heap.size WF WF.drew := (Below.refl WF.heap.size WF).drew
          clear hkq
          go_region_held3 (fun w' => w'.cell? ⟨w8.heap.size, 0, none⟩ = some (.bool false) ∧ w'.cell? ⟨w8.heap.size, 1, none⟩ = some (.slice X1 k xc) ∧ w'.cell? ⟨wb.heap.size, 0, none⟩ = some (.bool false) ∧ w'.cell? ⟨wb.heap.size, 1, none⟩ = some (.slice Y1 k yc) ∧ w'.cell? ⟨Q, 0, none⟩ = some (.slice D1 d.k.length dc1) ∧ w'.cell? ⟨Q, 1, none⟩ = some (.slice D2 d.e.length dc2) ∧ Below WF.heap.size WF w')
            (first | (with_reducible assumption) | (with_reducible exact HKQ.out _ (Below.refl _ _)) | (with_reducible exact HKQ.out _ bz1) | (with_reducible exact HKQ.out _ b1) | (with_reducible exact HKQ.out _ b2) | (with_reducible exact HKQ.out _ b3) | (with_reducible exact HKQ.out _ b4))
            (first
              | (go_at_call 25; (with_reducible refine (HSA.out _ ?_).mono ?_); (go_split_ands; with_reducible assumption); rintro e wc ⟨rfl, hbb⟩; go_split_ands; have b1 : Below WF.heap.size WF wc := Below.trans (by with_reducible assumption) (hbb.mono (Below.size (by with_reducible assumption))); clear hbb)
              | (go_at_call 24; (try rw [HFD.out]); (with_reducible refine (HMF.out _ ?_).mono ?_); (go_split_ands; with_reducible assumption); rintro e wd ⟨Zr, zc, rfl, hown, hbb⟩; go_split_ands; have b2 : Below WF.heap.size WF wd := Below.trans (by with_reducible assumption) (hbb.mono (Below.size (by with_reducible assumption))); have RZ := Lib.hid ((row_of_own hown).base (Nat.zero_le _)); clear hbb hown)
              | (go_at_call 26; (with_reducible refine (HIN.out Zr zc _ ?_ ?_).mono ?_); (go_split_ands; with_reducible assumption); (with_reducible exact RZ.out); rintro e we ⟨rfl, hbb⟩; go_split_ands; have b3 : Below WF.heap.size WF we := Below.trans (by with_reducible assumption) (hbb.mono (Below.size (by with_reducible assumption))); clear hbb)
              | (go_at_call 8; (with_reducible refine (awake_any _).mono ?_); rintro e wf ⟨rfl, hbb⟩; go_split_ands; have b4 : Below WF.heap.size WF wf := Below.trans (by with_reducible assumption) (hbb.mono (Below.size (by with_reducible assumption))); clear hbb))
          have BF := Lib.hid (HW7.out.trans ((BB.out.trans (Below.mono (show Below WF.heap.size WF wf from b4) BB.out.size)).mono HW7.out.size))
          go_wp2_with fail
          go_ret
          exact ⟨by first | rfl | simp, BF.out⟩

/-! ### THE ROW's STEP: WRITTEN OUT: LEAVE IT -/
set_option maxRecDepth 100000 in
theorem lifted (os : Os) (started : os.Started) (H : Type) (enc : TypeId × Value → H) :
    ReturnsInHanded {} Try.checked os 6 .any (Rows.readersGroupsSpec.pre6 enc Try.prog Try.f6 Rows.readersGroupsRow.domain false) (Rows.readersGroupsSpec.post enc Try.prog Try.f6 false true false false) := by
  refine returnsInHanded_of_change (C := Try.checked) own started (by kernel_rfl) Try.func6
    (ChangeSpec.witness6 (enc := enc) (C := Try.checked) false ⟨#[], #[.slice none 0 0], []⟩ 8 (by kernel_rfl) (by kernel_rfl) (by kernel_rfl) (by kernel_rfl)) ?_
  intro W base args ds gs before hval0 hW hcnd _
  have hval : ∀ (j : Nat) t v, Try.f6.params[j]? = some t → args[j]? = some v → Value.okWide Try.prog W .any base t v := hval0
  have hW' := hW
  obtain ⟨p, q, hA0, hV, rfl, hfz, hnd⟩ := hW
  have hA : DataW.TrodAll enc Try.prog W 0 (fun _ => true) true Try.f6.params.toList args.toList ds p := hA0
  rw [Try.params6] at hA hval
  obtain ⟨v0, vs0, d0, ds0, p0, q0, hargs, rfl, rfl, h0, r0⟩ := trodAll_cons hA
  obtain ⟨rfl, rfl, rfl⟩ := trodAll_nil r0
  obtain rfl : args = #[v0] := by cases args; simp_all
  obtain ⟨rfl, rfl⟩ := trodVars_none hV
  obtain ⟨a0, len0, cap0, rfl⟩ := okWide_slice Try.underlying22 (hval 0 22 v0 rfl rfl)
  have k0 := h0
  have lt0 : ∀ x ∈ p0, x.block < W.heap.size := by obtain ⟨m, hm⟩ := k0; exact DataW.trod_lt m _ _ _ hm
  obtain ⟨z0, w0⟩ : ∃ zs, IsRow .i64 W a0 len0 cap0 zs := by
    obtain ⟨fuel, hf⟩ := h0
    rcases open_ints Try.underlying22 Try.underlying3 (by kernel_rfl) hf with ⟨hcs, _⟩ | ⟨x, l, c, zs, hcs, _, hl, hm, hz, _, hcell, hwz⟩
    · simp [Value.cells] at hcs
      obtain ⟨rfl, rfl, rfl⟩ := hcs
      exact ⟨[], .inl ⟨rfl, rfl, rfl, rfl⟩⟩
    · simp [Value.cells] at hcs
      obtain ⟨rfl, rfl, rfl⟩ := hcs
      exact ⟨zs, .inr ⟨_, rfl, hl, hm, by simpa using hz, hcell, hwz⟩⟩
  clear hA0 hval0
  refine (walk a0 len0 cap0 z0 W w0).mono fun e W' ⟨he, bel⟩ => ?_
  subst he
  exact ⟨_, rfl, _, _, _, [], _, [], hW', trodAll_mk1 (shut_bool Try.underlying4 _), (trodAll_cons_mk (Below.trod laidOut (by kernel_rfl) (of_decide_eq_true (by kernel_rfl)) k0 bel lt0) trodAll_mk0), rfl, bel.frame _, fun h => by cases h⟩

theorem over : Rows.readersGroupsRow.holds Try.pinned (OpenSpec.ofChange Rows.readersGroupsSpec) :=
  OpenClaim.holds_of_wide 6 Try.f6 rfl rfl rfl rfl rfl rfl rfl ⟨rfl, rfl, rfl, rfl, rfl⟩ rfl rfl rfl rfl rfl (by kernel_rfl) Try.func6 (by kernel_rfl)
    (of_decide_eq_true (by kernel_rfl)) (by unfold Func.isWrapper; first | (rw [if_pos (by decide +kernel)]; kernel_rfl) | (rw [if_neg (by decide +kernel)]; exact ⟨rfl, rfl⟩))
    (fun os started H enc _ => lifted os started H enc)

/-- ████ THE STATEMENT ████ -/
theorem proved : Rows.ReadersGroupsSaid := over
#print axioms proved
end Go.Proofs.Ytgknfkmojhganaa.readersGroups
