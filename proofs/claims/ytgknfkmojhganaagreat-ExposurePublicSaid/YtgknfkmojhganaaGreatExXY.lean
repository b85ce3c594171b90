import Derived.Test.YtgknfkmojhganaaGreatExW
import Derived.Deep.RegionWith

namespace Go.Proofs.YtgknfkmojhganaaGreat.Di
open Go.RowKit
open Go.Proofs.YtgknfkmojhganaaGreat.Tp
set_option linter.unusedVariables false
set_option linter.unusedSimpArgs false

set_option maxRecDepth 100000 in
set_option maxHeartbeats 1000000 in
/-- The order of exposures by time. -/
theorem c77_any (p q : Int) (S T : Nat) (w : World) (hS : S ≤ 1099511627776) (hT : T ≤ 1099511627776) :
    Calls Tryz.prog 77 #[.agg #[.int .i64 p, .int .i64 (S : Int)], .agg #[.int .i64 q, .int .i64 (T : Int)]] w fun e w' => e = .returned (.int .i64 ((S : Int) - (T : Int))) ∧ Below w.heap.size w w' := by
  have hbx := (box_below w (.cells #[.int .i64 p, .int .i64 (S : Int)] 70)).trans ((box_below (w.alloc (.cells #[.int .i64 p, .int .i64 (S : Int)] 70)) (.cells #[.int .i64 q, .int .i64 (T : Int)] 70)).mono (by simp))
  have HBX := Lib.hid hbx
  have D1 := heap_alloc2_old w (.cells #[.int .i64 p, .int .i64 (S : Int)] 70) (.cells #[.int .i64 q, .int .i64 (T : Int)] 70)
  have E1 := heap_alloc2_new w (.cells #[.int .i64 p, .int .i64 (S : Int)] 70) (.cells #[.int .i64 q, .int .i64 (T : Int)] 70)
  have d1 : ((w.alloc (.cells #[.int .i64 p, .int .i64 (S : Int)] 70)).alloc (.cells #[.int .i64 q, .int .i64 (T : Int)] 70)).cell? ⟨w.heap.size, 1, none⟩ = some (.int .i64 (S : Int)) := by rw [cell_of_row _ _ _ _ _ _ D1]; rfl
  have e1 : ((w.alloc (.cells #[.int .i64 p, .int .i64 (S : Int)] 70)).alloc (.cells #[.int .i64 q, .int .i64 (T : Int)] 70)).cell? ⟨w.heap.size + 1, 1, none⟩ = some (.int .i64 (T : Int)) := by rw [cell_of_row _ _ _ _ _ _ E1]; rfl
  have hw : IntKind.i64.wrap ((S : Int) - (T : Int)) = (S : Int) - (T : Int) := IntWalk.i64_in _ (by omega)
  clear hbx D1 E1
  go_enter Tryz.func77, Tryz.ntmps77
  go_wp2_with fail
  go_ret
  exact ⟨by first | rfl | simp, HBX.out⟩
theorem xc2 {W : World} {g : Nat} {p : Int} {T : Nat} (h : W.heap[g]? = some (.cells #[.int .i64 p, .int .i64 (T : Int)] 70 (0, 0))) : W.cell? ⟨g, 0, none⟩ = some (.int .i64 p) ∧ W.cell? ⟨g, 1, none⟩ = some (.int .i64 (T : Int)) := by
  refine ⟨?_, ?_⟩ <;> rw [cell_of_row _ _ _ _ _ _ h] <;> rfl
theorem info70 (p : Int) (T : Nat) : (Tryz.prog.info? 70).map (·.size) = some (#[Value.int .i64 p, Value.int .i64 (T : Int)] : Array Value).size := by
  have h : (Tryz.prog.info? 70).map (·.size) = some 2 := by kernel_rfl
  exact h
set_option maxRecDepth 100000 in
set_option maxHeartbeats 4000000 in
/-- The least exposure. -/
theorem xmin_any (X : Option Addr) (n c : Nat) (F : List (Int × Nat)) (w : World) (h : Row w 0 2 X n (xv F)) (h1 : 1 ≤ n) (hn : n ≤ 1000) (hT : ∀ j, j < n → (xg F j).2 ≤ 1099511627776) :
    Calls Tryz.prog 76 #[.slice X n c, .func (.func 77) #[] #[]] w fun e w' => ∃ j, j < n ∧ e = .returned (.agg #[.int .i64 (xg F j).1, .int .i64 ((xg F j).2 : Int)]) ∧ (∀ i, i < n → (xg F j).2 ≤ (xg F i).2) ∧ Below w.heap.size w w' := by
  have hb1 := box_below w (.cells #[.int .i64 0, .int .i64 0] 70)
  have hs1 : (w.alloc (.cells #[.int .i64 0, .int .i64 0] 70)).heap.size = w.heap.size + 1 := by simp
  obtain ⟨b, off, hA, y0, y1⟩ := (h.below hb1).xp (i := 0) (by omega)
  subst hA
  rw [Nat.zero_mul, Nat.add_zero] at y0 y1
  have hb2 := hb1.trans ((box_below _ (.cells #[.int .i64 (xg F 0).1, .int .i64 ((xg F 0).2 : Int)] 70)).mono hb1.size)
  have HB2 := Lib.hid hb2
  have r0 := (heap_alloc_old _ (.cells #[.int .i64 (xg F 0).1, .int .i64 ((xg F 0).2 : Int)] 70) (by rw [hs1]; omega)).trans (heap_alloc_new w (.cells #[.int .i64 0, .int .i64 0] 70))
  have r1 := heap_alloc_new (w.alloc (.cells #[.int .i64 0, .int .i64 0] 70)) (.cells #[.int .i64 (xg F 0).1, .int .i64 ((xg F 0).2 : Int)] 70)
  rw [hs1] at r1
  have R0 := Lib.hid r0
  have R1 := Lib.hid r1
  have HR := Lib.hid h
  have HT := Lib.hid hT
  have dn : decide ((n : Int) < 1) = false := decide_eq_false (by omega)
  have n0' : (0 : Int) < (n : Int) := by omega
  clear h hT hb1 hb2 r0 r1 hs1
  go_enter Tryz.func76, Tryz.ntmps76
  go_wp2_with fail
  obtain ⟨W2, hW2⟩ : ∃ W2, (w.alloc (.cells #[.int .i64 0, .int .i64 0] 70)).alloc (.cells #[.int .i64 (xg F 0).1, .int .i64 ((xg F 0).2 : Int)] 70) = W2 := ⟨_, rfl⟩
  rw [hW2] at HB2 R0 R1 ⊢
  clear y0 y1 hW2
  go_loopw [6] (fun iv wr => ∃ i m : Nat, 1 ≤ i ∧ i ≤ n ∧ m < i ∧ iv = .int .i64 (i : Int) ∧ wr.heap[w.heap.size + 1]? = some (.cells #[.int .i64 (xg F m).1, .int .i64 ((xg F m).2 : Int)] 70 (0, 0)) ∧ wr.heap[w.heap.size]? = some (.cells #[.int .i64 0, .int .i64 0] 70 (0, 0)) ∧ (∀ j, j < i → (xg F m).2 ≤ (xg F j).2) ∧ Below w.heap.size w wr) (fun iv _ => n - (intOf iv).toNat)
  case atStart => exact ⟨1, 0, by omega, by omega, by omega, rfl, R1.out, R0.out, fun j hj => (show j = 0 by omega) ▸ Nat.le_refl _, HB2.out⟩
  case round =>
    obtain ⟨i, m, hi1, hi, hm, rfl, hr1, hr0, hmin, hbl⟩ := hrel
    have HR1 := Lib.hid hr1
    have HR0 := Lib.hid hr0
    have HMIN := Lib.hid hmin
    have HBL := Lib.hid hbl
    obtain ⟨m0, m1⟩ := xc2 hr1
    have hTm := HT.out m (by omega)
    clear hr1 hr0 hmin hbl
    by_cases hlt : i < n
    · obtain ⟨b', off', e', y0, y1⟩ := (HR.out.below HBL.out).xp hlt
      cases e'
      have i0 : (0 : Int) ≤ (i : Int) := by omega
      have i1 : (i : Int) < (n : Int) := by omega
      have hTi := HT.out i hlt
      generalize hgi : xg F i = x at *
      generalize hgm : xg F m = z at *
      obtain ⟨xp, xt⟩ := x
      obtain ⟨zp, zt⟩ := z
      simp only at y0 y1 m0 m1 hTi hTm
      have HC := Lib.hid (fun w' => c77_any xp zp xt zt w' hTi hTm)
      have HGI := Lib.hid hgi
      have HGM := Lib.hid hgm
      clear hgi hgm
      go_upto_region 7 with fail
      go_cut [27] from 20 to 27 (fun s wx => s = .bool (decide (xt < zt)) ∧ Below wr.heap.size wr wx)
      case first =>
        have d1 : decide ((xt : Int) - (zt : Int) < 0) = decide (xt < zt) := by by_cases h : xt < zt <;> simp [h] <;> omega
        go_region_with (go_at_call 77; refine (HC.out _).mono ?_; rintro e w2 ⟨rfl, hb2⟩; have B2 := Lib.hid (show Below wr.heap.size wr w2 from (by first | exact hb2 | exact (Below.refl _ _).drew.trans (hb2.mono (Nat.le_refl _)))); clear hb2)
        all_goals
          go_wp2_with fail
          go_meet
          case rel => exact ⟨by first | rfl | exact congrArg Value.bool d1 | simp [d1], by first | exact B2.out | exact B2.out.drew⟩
      case rest =>
      obtain ⟨rfl, hbw⟩ := hcut
      rename World => W3
      have BW := Lib.hid (HBL.out.trans (hbw.mono HBL.out.size))
      have S1 := Lib.hid ((hbw.block _ (row_lt HR1.out)).trans HR1.out)
      have S0 := Lib.hid ((hbw.block _ (row_lt HR0.out)).trans HR0.out)
      obtain ⟨b', off', e', q0, q1⟩ := (HR.out.below BW.out).xp hlt
      cases e'
      rw [HGI.out] at q0 q1
      simp only at q0 q1
      clear hbw y0 y1 m0 m1
      have hwi : IntKind.i64.wrap ((i : Int) + 1) = (i : Int) + 1 := IntWalk.i64_in _ (by omega)
      by_cases hl : xt < zt
      · have d2 : decide (xt < zt) = true := decide_eq_true hl
        rw [d2]
        clear d2
        go_wp2_with (with_reducible (show wpList _ _ _ (⟨none, .store 70 (.tmp 5) (.tmp 31), _, _, _, _⟩ :: _) _ _); refine wpList_store_row (o := ⟨none, .store 70 (.tmp 5) (.tmp 31), _, _, _, _⟩) rfl 70 (.tmp 5) (.tmp 31) rfl (w.heap.size + 1) #[.int .i64 xp, .int .i64 (xt : Int)] rfl rfl 70 #[.int .i64 zp, .int .i64 (zt : Int)] S1.out (info70 xp xt) rfl (by simp [Value.oneCell']) ?_)
        refine ⟨⟨i + 1, i, by omega, by omega, by omega, congrArg (Value.int .i64) (by omega), ?_, ?_, fun j hj => ?_, below_setRow BW.out (by omega) _⟩, by simp [intOf]; omega⟩
        · rw [HGI.out]; exact setRow_heap _ _ _ _ _ _ S1.out
        · exact (setRow_other _ _ _ _ (by omega)).trans S0.out
        · rw [HGI.out]
          by_cases e : j = i
          · rw [e, HGI.out]; exact Nat.le_refl _
          · have := HMIN.out j (by omega)
            simp only at this ⊢
            omega
      · have d2 : decide (xt < zt) = false := decide_eq_false hl
        rw [d2]
        clear d2
        go_wp2_with fail
        refine ⟨⟨i + 1, m, by omega, by omega, by omega, congrArg (Value.int .i64) (by omega), by rw [HGM.out]; exact S1.out, S0.out, fun j hj => ?_, BW.out⟩, by simp [intOf]; omega⟩
        rw [HGM.out]
        by_cases e : j = i
        · rw [e, HGI.out]; simp only; omega
        · exact HMIN.out j (by omega)
    · obtain rfl : i = n := by omega
      go_wp2_with (with_reducible (show wpList _ _ _ (⟨none, .store 70 (.tmp 4) (.tmp 32), _, _, _, _⟩ :: _) _ _); refine wpList_store_row (o := ⟨none, .store 70 (.tmp 4) (.tmp 32), _, _, _, _⟩) rfl 70 (.tmp 4) (.tmp 32) rfl w.heap.size #[.int .i64 (xg F m).1, .int .i64 ((xg F m).2 : Int)] rfl rfl 70 #[.int .i64 0, .int .i64 0] HR0.out (info70 _ _) rfl (by simp [Value.oneCell']) ?_)
      exact bodyPost_ret (v := .agg #[.int .i64 (xg F m).1, .int .i64 ((xg F m).2 : Int)]) (results_cell_row rfl _ _ w.heap.size 70 #[.int .i64 (xg F m).1, .int .i64 ((xg F m).2 : Int)] (0, 0) _ rfl (setRow_heap _ _ _ _ _ _ HR0.out) Tryz.underlying70 rfl (info70 _ _)) rfl ⟨m, hm, rfl, HMIN.out, below_setRow HBL.out (Nat.le_refl _) _⟩
/-- What First tells. -/
def FiP (F : List (Int × Nat)) (s : Int) (b : Bool) : Prop := (F.length = 0 → b = false ∧ s = 0) ∧ (0 < F.length → b = true ∧ ∃ j, j < F.length ∧ s = ((xg F j).2 : Int) ∧ ∀ i, i < F.length → (xg F j).2 ≤ (xg F i).2)
theorem tiM_le {d : Dy} {a : Es} (hok : Ok d) (hea : Eok a) {r : Nat} (h : TiM d a r) : r ≤ 1099511627776 := by
  rcases h with ⟨j, h1, h2⟩ | ⟨j, h1, h2⟩
  · have := (hea.e j h1).2.1
    omega
  · have := (hok.e j h1).t
    omega
theorem exL_le {d : Dy} {a : Es} (hok : Ok d) (hea : Eok a) {n : Nat} {c : Int} : ∀ k x, x ∈ exL d a n c k → x.2 ≤ 1099511627776
  | 0, _, h => by cases h
  | k + 1, x, h => by
    cases e : siF d a n c ((k : Int) - 1) with
    | none => rw [exL_none e] at h; exact exL_le hok hea k x h
    | some T =>
      rw [exL_some e, List.mem_append, List.mem_singleton] at h
      rcases h with h | h
      · exact exL_le hok hea k x h
      · rw [h]; exact tiM_le hok hea (siF_is e).1
theorem xg_mem {F : List (Int × Nat)} {j : Nat} (h : j < F.length) : xg F j ∈ F := by
  unfold xg
  rw [List.getD_eq_getElem?_getD, List.getElem?_eq_getElem h]
  exact List.getElem_mem h
set_option maxRecDepth 100000 in
set_option maxHeartbeats 2000000 in
/-- The product's First. -/
theorem xfirst_any (d : Dy) (v : Vd) (a : Es) (u : Ve) (n : Nat) (c : Int) (w : World) (h : DL w 0 d v) (hok : Ok d) (he : EL w 0 a u) (hea : Eok a) (hn : a.n = (n : Int)) (hc : 0 ≤ c ∧ c < 64) :
    Calls Tryz.prog 32 #[.agg (gd d v), .agg (ge a u), .int .i64 c] w fun e w' => ∃ (s : Int) (b : Bool), e = .returned (.tuple #[.int .i64 s, .bool b]) ∧ FiP (exL d a n c (d.k.length + 1)) s b ∧ Below w.heap.size w w' := by
  have hbx := (box_below w (.cells (gd d v) 25)).trans ((box_below (w.alloc (.cells (gd d v) 25)) (.cells (ge a u) 28)).mono (by simp))
  have HBX := Lib.hid hbx
  have D1 := heap_alloc2_old w (.cells (gd d v) 25) (.cells (ge a u) 28)
  have E1 := heap_alloc2_new w (.cells (gd d v) 25) (.cells (ge a u) 28)
  obtain ⟨g0, g1⟩ := gdCells D1
  obtain ⟨c0, c1⟩ := geCells E1
  have hall := xall_any d v a u n c _ (h.below hbx) hok (Row.below he hbx) hea hn hc
  unfold AlPost at hall
  have HFD := Lib.hid (show (#[.slice v.A1 d.k.length v.c1, .slice v.A2 d.e.length v.c2] : Array Value) = gd d v from rfl)
  have HFE := Lib.hid (show (#[.int .i64 a.n, .slice u.A a.e.length u.c] : Array Value) = ge a u from rfl)
  have hlen := exL_len d a n c (d.k.length + 1)
  have hn24 := hok.n
  have HLE := Lib.hid (exL_le hok hea (n := n) (c := c) (d.k.length + 1))
  generalize exL d a n c (d.k.length + 1) = F at *
  obtain ⟨f, hf⟩ : ∃ f, F.length = f := ⟨_, rfl⟩
  have HF := Lib.hid hf
  rw [hf] at hall hlen
  have HALL := Lib.hid hall
  clear h hok he hea hn hc hbx hall D1 E1 hf
  by_cases hf0 : f = 0
  · subst hf0
    go_enter Tryz.func32, Tryz.ntmps32
    go_wp2_with (go_at_call 27; rw [HFD.out, HFE.out]; refine HALL.out.mono ?_; rintro e w1 ⟨X, xc, rfl, hown, hb1⟩; have B1 := Lib.hid (HBX.out.trans (hb1.mono HBX.out.size)); clear hb1 hown g0 g1 c0 c1)
    go_ret2
    exact ⟨0, false, by first | rfl | simp, ⟨fun _ => ⟨rfl, rfl⟩, fun h => by have := HF.out; omega⟩, B1.out⟩
  · have e0 : ((f : Int) == 0) = false := beq_eq_false_iff_ne.2 (by omega)
    have HF0 := Lib.hid (show 1 ≤ f by omega)
    clear hf0
    go_enter Tryz.func32, Tryz.ntmps32
    go_wp2_with (first
      | (go_at_call 27; rw [HFD.out, HFE.out]; refine HALL.out.mono ?_; rintro e w1 ⟨X, xc, rfl, hown, hb1⟩; have B1 := Lib.hid (HBX.out.trans (hb1.mono HBX.out.size)); have HMN := Lib.hid (xmin_any X f xc F w1 ((row_of_own hown).base (Nat.zero_le _)) HF0.out (by omega) (fun j hj => HLE.out _ (xg_mem (by rw [HF.out]; exact hj)))); clear hb1 hown g0 g1 c0 c1)
      | (go_at_call 76; refine HMN.out.mono ?_; rintro e w2 ⟨j, hj, rfl, hmin, hb2⟩; have HJ := Lib.hid hj; have HMIN := Lib.hid hmin; have hbn := box_below w2 (.cells #[.int .i64 (xg F j).1, .int .i64 ((xg F j).2 : Int)] 70); have N2 := heap_alloc_new w2 (.cells #[.int .i64 (xg F j).1, .int .i64 ((xg F j).2 : Int)] 70); obtain ⟨n0, n1⟩ := xc2 N2; have B2 := Lib.hid (B1.out.trans ((hb2.trans (hbn.mono hb2.size)).mono B1.out.size)); clear hj hmin hb2 hbn N2))
    go_ret2
    exact ⟨_, true, by first | rfl | simp, ⟨fun h => by have := HF.out; have := HF0.out; omega, fun _ => ⟨rfl, j, by rw [HF.out]; exact HJ.out, rfl, fun i hi => HMIN.out i (by rw [← HF.out]; exact hi)⟩⟩, B2.out⟩

end Go.Proofs.YtgknfkmojhganaaGreat.Di

namespace Go.Proofs.YtgknfkmojhganaaGreat.Di
open Go.RowKit
set_option linter.unusedVariables false
set_option linter.unusedSimpArgs false

/-! Where everybody could read. -/
theorem siF_one {d : Dy} {a : Es} {n : Nat} {c : Int} {T0 p : Nat} (h : siF d a n c (-1) = some T0) (hr : rB d p = true) : ∃ T, siF d a n c (p : Int) = some T ∧ T ≤ T0 := by
  obtain ⟨h1, h2, -⟩ := siF_is h
  have hx : xwB d a n c (p : Int) T0 = true := by
    unfold xwB at h2 ⊢
    rw [any_iff] at h2 ⊢
    obtain ⟨P, hP, h3⟩ := h2
    refine ⟨P, hP, ?_⟩
    rw [Bool.and_eq_true] at h3 ⊢
    refine ⟨h3.1, ?_⟩
    have h4 := h3.2
    unfold xB at h4 ⊢
    rw [if_pos rfl] at h4
    rw [if_neg (by omega)]
    show mayB d a p P T0 = true
    unfold mayB
    rw [hr, h4]
    rfl
  obtain ⟨T, h3, h4⟩ := leM_ex T0 h1 hx
  exact ⟨T, siF_yes h3, h4⟩
theorem siF_nor {d : Dy} {a : Es} {n : Nat} {c : Int} {p : Nat} (hr : rB d p = false) : siF d a n c (p : Int) = none := siF_no fun r _ => by
  rw [← Bool.not_eq_true]
  unfold xwB
  rw [any_iff]
  rintro ⟨P, _, h⟩
  rw [Bool.and_eq_true] at h
  have h2 := h.2
  unfold xB at h2
  rw [if_neg (by omega)] at h2
  have h3 : mayB d a p P r = true := h2
  unfold mayB at h3
  rw [hr] at h3
  cases h3
theorem exL_pub {d : Dy} {a : Es} {n : Nat} {c : Int} {T0 : Nat} (h : siF d a n c (-1) = some T0) : ∀ k, ∃ L, exL d a n c (k + 1) = (-1, T0) :: L ∧ L.length = cnt (rB d) k ∧ ∀ x, x ∈ L → x.2 ≤ T0
  | 0 => ⟨[], by rw [exL_some (show siF d a n c (((0 : Nat) : Int) - 1) = some T0 from h)]; rfl, rfl, fun x hx => by cases hx⟩
  | k + 1 => by
    obtain ⟨L, h1, h2, h3⟩ := exL_pub h k
    have e : ((k + 1 : Nat) : Int) - 1 = (k : Int) := by omega
    cases hr : rB d k with
    | true =>
      obtain ⟨T, h4, h5⟩ := siF_one h hr
      refine ⟨L ++ [((k : Int), T)], ?_, ?_, fun x hx => ?_⟩
      · rw [exL_some (show siF d a n c (((k + 1 : Nat) : Int) - 1) = some T from by rw [e]; exact h4), h1, e]
        rfl
      · rw [List.length_append, h2, cnt_tt hr]
        rfl
      · rw [List.mem_append, List.mem_singleton] at hx
        rcases hx with hx | hx
        · exact h3 x hx
        · rw [hx]; exact h5
    | false =>
      refine ⟨L, ?_, ?_, h3⟩
      · rw [exL_none (show siF d a n c (((k + 1 : Nat) : Int) - 1) = none from by rw [e]; exact siF_nor hr), h1]
      · rw [h2, cnt_ff hr]
theorem exL_notpub {d : Dy} {a : Es} {n : Nat} {c : Int} (h : siF d a n c (-1) = none) : ∀ k x, x ∈ exL d a n c k → x.1 ≠ -1
  | 0, _, hx => by cases hx
  | k + 1, x, hx => by
    cases e : siF d a n c ((k : Int) - 1) with
    | none => rw [exL_none e] at hx; exact exL_notpub h k x hx
    | some T =>
      rw [exL_some e, List.mem_append, List.mem_singleton] at hx
      rcases hx with hx | hx
      · exact exL_notpub h k x hx
      · rw [hx]
        show (k : Int) - 1 ≠ -1
        intro hk
        have : k = 0 := by omega
        subst this
        rw [show ((0 : Nat) : Int) - 1 = -1 from rfl, h] at e
        cases e
/-- What the law asks of a list that begins with everybody. -/
theorem pub_is {d : Dy} {a : Es} {n : Nat} {c : Int} {F : List (Int × Nat)} (hF : exL d a n c (d.k.length + 1) = F) (h0 : 0 < F.length) (h1 : (xg F 0).1 = -1) : F.length = cnt (rB d) d.k.length + 1 ∧ ∀ i, i < F.length → (xg F i).2 ≤ (xg F 0).2 := by
  cases e : siF d a n c (-1) with
  | none =>
    have := exL_notpub e (d.k.length + 1) (xg F 0) (by rw [hF]; exact xg_mem h0)
    exact absurd h1 this
  | some T0 =>
    obtain ⟨L, h2, h3, h4⟩ := exL_pub e d.k.length
    rw [hF] at h2
    subst h2
    refine ⟨by rw [List.length_cons, h3], fun i hi => ?_⟩
    have hm := xg_mem hi
    rw [List.mem_cons] at hm
    rcases hm with hm | hm
    · rw [hm]; exact Nat.le_refl _
    · exact h4 _ hm
theorem own_capX {w : World} {B n c e s : Nat} {A : Option Addr} {xs : List Value} (h : w.ownsRow B e s (.slice A n c) n xs) : n ≤ c := by
  rcases h.2 with ⟨_, e⟩ | ⟨g', cap, cur, hv, _, _, h1, _⟩
  · omega
  · cases hv; exact h1

end Go.Proofs.YtgknfkmojhganaaGreat.Di
