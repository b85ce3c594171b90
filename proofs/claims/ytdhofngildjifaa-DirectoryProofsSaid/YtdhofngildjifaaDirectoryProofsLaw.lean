/-
  The Go function leakresponse/leakresponselaw23.DirectoryProofs returns true for every list of numbers, and leaves what was there as it was; no conditions. A principal is in another one, a group, exactly if there is a chain, and is not exactly if the least closed set with it has not the group.
-/
import Derived.Test.YtdhofngildjifaaDjN
import Derived.Test.YtdhofngildjifaaRows
import Derived.WalkKit
import Derived.ProofKit
import Derived.OpenShut
import Derived.ShutString
import Derived.ChangeOld
import Derived.Below
namespace Go.Proofs.Ytdhofngildjifaa.directoryProofs
open Go.ChangeShapes Go.WideShapes Go.ChangeAt Go.RowKit
open Go.ChangeMaps (open_string shut_string)
open Go.Proofs.Ytdhofngildjifaa.Tp
open Go.Proofs.Ytdhofngildjifaa.Di
set_option linter.unusedVariables false

set_option maxRecDepth 100000 in
set_option maxHeartbeats 4000000 in
theorem walk (a0 : Option Addr) (len0 cap0 : Nat) (z0 : List Int) (w : World) (w0 : IsRow .i64 w a0 len0 cap0 z0) :
    Calls Try.prog 4 #[.slice a0 len0 cap0] w fun e w' => e = .returned (.bool true) ∧ Below w.heap.size w w' := by
  have hm := w0.at_.1
  unfold maxLen at hm
  have HTP := Lib.hid (tape_new w0)
  have HBX := Lib.hid (box_below w (.cells #[.slice a0 len0 cap0, .int .i64 0] 29))
  clear w0
  by_cases hlen : 300 < len0
  · have hl0 : (300 : Int) < (len0 : Int) := by omega
    go_enter Try.func4, Try.ntmps4
    go_wp2_with (go_at_call 10; refine (awake_any _).mono ?_; rintro e w1 ⟨rfl, hb1⟩; have HB1 := Lib.hid hb1; clear hb1)
    go_ret
    exact ⟨rfl, HB1.out⟩
  · have hl0 : (len0 : Int) ≤ (300 : Int) := by omega
    go_enter Try.func4, Try.ntmps4
    go_wp2_with fail
    refine (directory_any w.heap.size _ HTP.out (by simp)).mono ?_
    rintro e w1 ⟨d, v, rfl, hmk, hrl, hg1, ht1⟩
    have hb1 : Below w.heap.size w w1 := HBX.out.grown hg1 HBX.out.size (fun k e => by cases e; exact Nat.le_refl _)
    have hs1 := hg1.size
    simp at hs1
    have HQ := Lib.hid (heap_alloc_new w1 (.cells (gd d v) 25))
    have HDL := Lib.hid ((hrl.base (show w.heap.size + 1 ≤ _ by simp)).below (box_below w1 (.cells (gd d v) 25)))
    have HB1 := Lib.hid (hb1.trans ((box_below w1 (.cells (gd d v) 25)).mono hb1.size))
    have HT1 := Lib.hid (tape_new2 ht1 (.cells (gd d v) 25))
    have HMK := Lib.hid hmk
    have hn1 := hmk.n1
    have hn7 := hmk.n7
    clear hrl hg1 ht1 hb1 hmk
    obtain ⟨g0, g1⟩ := gdCells HQ.out
    go_wp2_with (with_reducible (show wpList _ _ _ (⟨none, .store 25 (.tmp 4) (.tmp 20), _, _, _, _⟩ :: _) _ _); refine wpList_store_row (o := ⟨none, .store 25 (.tmp 4) (.tmp 20), _, _, _, _⟩) rfl 25 (.tmp 4) (.tmp 20) rfl w1.heap.size (gd d v) rfl rfl 25 zD (heap_alloc_new _ _) (info25 _ _) rfl (gd_one _ _) ?_; rw [new_set])
    refine (next_any w.heap.size 24 _ HT1.out (by omega) (by omega)).mono ?_
    rintro e w2 ⟨zt, zt0, zt1, rfl, hg2, ht2⟩
    obtain ⟨t, rfl⟩ : ∃ z : Nat, zt = z := ⟨zt.toNat, by omega⟩
    generalize w1.heap.size = Q at *
    generalize w1.alloc (.cells (gd d v) 25) = W1 at *
    have lQ : Q < W1.heap.size := row_lt HQ.out
    have HQ2 := Lib.hid ((hg2.block _ lQ (fun e => by injection e; omega)).trans HQ.out)
    have HD2 := Lib.hid (HDL.out.grown hg2 (fun g e => by cases e; omega))
    have HB2 := Lib.hid (HB1.out.grown hg2 HB1.out.size (fun k e => by cases e; exact Nat.le_refl _))
    have HT2 := Lib.hid ht2
    clear hg2 ht2 g0 g1 HQ HDL HB1 HT1 lQ
    generalize w2 = W2 at *
    have HOK := Lib.hid HMK.out.ok
    have lQ : Q < W2.heap.size := row_lt HQ2.out
    have hup := fun p w' (hw : Below W2.heap.size W2 w') => upw_any _ d v p t w' (HD2.out.below hw) HOK.out
    have hgs := fun w' (hw : Below W2.heap.size W2 w') => groups_any _ d v w' (HD2.out.below hw) (by omega)
    have hwy := fun p g w' (hw : Below W2.heap.size W2 w') => why2_any _ d v p g t w' (HD2.out.below hw) HOK.out
    have hin := fun p g w' (hw : Below W2.heap.size W2 w') => in26_any _ d v p g t w' (HD2.out.below hw) HOK.out
    have hcl := fun p w' (hw : Below W2.heap.size W2 w') (As : Option Addr) (cs : Nat) (hr : Row w' 0 1 As (idx (upB d t p) d.k.length).length (iv (idx (upB d t p) d.k.length))) => closed_any _ d v t cs As (idx (upB d t p) d.k.length) w' (HD2.out.below hw) HOK.out hr (idx_strict _ _)
    have hpv := fun p g c w' (hw : Below W2.heap.size W2 w') (As : Option Addr) (cs : Nat) (hr : Row w' 0 1 As c.length (iv c)) (hch : Chain (dm d t) d.k.length p g c) (hcs : c.length ≤ cs) => proves_any _ d v t p g cs As c w' (HD2.out.below hw) HOK.out hr hch hcs
    simp only [gd] at hup hgs hwy hin hpv
    simp only [gd, idx_len, cl_up] at hcl
    have HUP := Lib.hid hup
    have HGS := Lib.hid hgs
    have HWY := Lib.hid hwy
    have HIN := Lib.hid hin
    have HCL := Lib.hid hcl
    have HPV := Lib.hid hpv
    have HGC := Lib.hid (fun w' (hw : Below W2.heap.size W2 w') => gdCells ((hw.block _ lQ).trans HQ2.out))
    clear hup hgs hwy hin hcl hpv
    obtain ⟨g0, g1⟩ := gdCells HQ2.out
    go_wp2_with fail
    clear g0 g1
    go_loopw [26] (fun ii wr => ∃ k : Nat, k ≤ d.k.length ∧ ii = .int .i64 k ∧ Below W2.heap.size W2 wr) (fun ii _ => d.k.length - (intOf ii).toNat)
    case atStart => exact ⟨0, by omega, rfl, Below.refl _ _⟩
    case round =>
      obtain ⟨p, hk, rfl, hbl⟩ := hrel
      have HBK := Lib.hid hbl
      obtain ⟨g0, g1⟩ := HGC.out _ hbl
      clear hbl
      by_cases hlt : p < d.k.length
      · have j1 : (p : Int) < (d.k.length : Int) := by omega
        have hu := HUP.out p wr HBK.out
        have hc := HCL.out p
        have hs1 : anyB (fun j => (idx (upB d t p) d.k.length).getD j 0 == p) (cnt (upB d t p) d.k.length) = true := (has_idx _ _ _ hlt).trans (up_self hlt)
        have hs2 : ∀ g, g < d.k.length → kd d g = 2 → g ≠ p → anyB (fun j => (idx (upB d t p) d.k.length).getD j 0 == g) (cnt (upB d t p) d.k.length) = inB d t p g := fun g hg h2 hne => (has_idx _ _ _ hg).trans (up_in hlt hg h2 hne)
        have hcu := cnt_le (upB d t p) d.k.length
        unfold SmPost at hu
        generalize cnt (upB d t p) d.k.length = nu at *
        generalize idx (upB d t p) d.k.length = LU at *
        have HC := Lib.hid hc
        have HS1 := Lib.hid (fun (w' : World) (A : Option Addr) (cc : Nat) (hr : Row w' 0 1 A nu (iv LU)) => (show Calls Try.prog 34 #[.slice A nu cc, .int .i64 (p : Int)] w' (fun e w'' => e = .returned (.bool true) ∧ w'' = w') from by have := has_any LU p A nu cc w' hr (by omega); rw [hs1] at this; exact this))
        have HS2 := Lib.hid (fun g (hg : g < d.k.length) (h2 : kd d g = 2) (hne : g ≠ p) (w' : World) (A : Option Addr) (cc : Nat) (hr : Row w' 0 1 A nu (iv LU)) => (show Calls Try.prog 34 #[.slice A nu cc, .int .i64 (g : Int)] w' (fun e w'' => e = .returned (.bool (inB d t p g)) ∧ w'' = w') from by have := has_any LU g A nu cc w' hr (by omega); rw [hs2 g hg h2 hne] at this; exact this))
        clear hc hs1 hs2
        go_wp2_with fail
        refine hu.mono ?_
        rintro e w3 ⟨AU, cU, rfl, hownU, hb3⟩
        have B3 := Lib.hid (HBK.out.trans (hb3.mono HBK.out.size))
        have HRU := Lib.hid ((row_of_own hownU).base (Nat.zero_le _))
        obtain ⟨k0, k1⟩ := HGC.out _ B3.out
        clear hu hownU hb3 g0 g1
        go_wp2_with (first
          | (go_at_call 31; (refine (HC.out _ B3.out AU cU HRU.out).mono ?_); rintro e w4 ⟨rfl, hb4⟩; have B4 := Lib.hid (B3.out.trans (hb4.mono B3.out.size)); have HR4 := Lib.hid (HRU.out.below hb4); obtain ⟨x0, x1⟩ := HGC.out _ B4.out; clear hb4 k0 k1)
          | (go_at_call 34; (refine (HS1.out _ AU cU HR4.out).mono ?_); rintro e w4' ⟨rfl, rfl⟩))
        refine (HGS.out _ B4.out).mono ?_
        rintro e w5 ⟨Ag, cg, rfl, hown5, hb5⟩
        have hcn := cnt_le (gB d) d.k.length
        have hpm : ∀ r, r < cnt (gB d) d.k.length → (idx (gB d) d.k.length).getD r 0 < d.k.length ∧ kd d ((idx (gB d) d.k.length).getD r 0) = 2 := fun r hr => ⟨(at_idx hr).1, ((gB_iff _ _).1 (at_idx hr).2).2⟩
        generalize cnt (gB d) d.k.length = n1 at *
        generalize idx (gB d) d.k.length = L1 at *
        have HPM := Lib.hid hpm
        have HR5 := Lib.hid (row_of_own hown5)
        have B5 := Lib.hid (B4.out.trans (hb5.mono B4.out.size))
        have HU5 := Lib.hid (HR4.out.below hb5)
        clear hpm hown5 hb5 x0 x1
        go_wp2_with fail
        go_loopw [47] (fun ii wr => ∃ j : Nat, j ≤ n1 ∧ ii = .int .i64 j ∧ Below w5.heap.size w5 wr) (fun ii _ => n1 - (intOf ii).toNat)
        case atStart => exact ⟨0, by omega, rfl, Below.refl _ _⟩
        case round =>
          obtain ⟨j, hj, rfl, hbl⟩ := hrel
          rename World => wj
          have HBJ := Lib.hid hbl
          have HBW := Lib.hid (B5.out.trans (hbl.mono B5.out.size))
          by_cases hlj : j < n1
          · obtain ⟨b, off, hAg, -, -, y0⟩ := (HR5.out.below hbl).int hlj
            subst hAg
            obtain ⟨hgl, hg2⟩ := HPM.out j hlj
            generalize L1.getD j 0 = g at *
            obtain ⟨k0, k1⟩ := HGC.out _ HBW.out
            have HUJ := Lib.hid (HU5.out.below hbl)
            have i0 : (0 : Int) ≤ (j : Int) := by omega
            have i1 : (j : Int) < (n1 : Int) := by omega
            clear hbl
            by_cases hgp : g = p
            · have e5 : ((g : Int) == (p : Int)) = true := by rw [hgp]; simp
              clear hgp
              go_wp2_with fail
              exact ⟨⟨j + 1, by omega, by go_num, HBJ.out⟩, by simp [intOf]; omega⟩
            · have e5 : ((g : Int) == (p : Int)) = false := beq_eq_false_iff_ne.2 (by omega)
              have HH := Lib.hid (fun w' A cc hr => HS2.out g hgl hg2 hgp w' A cc hr)
              clear hgp hgl hg2
              go_wp2_with fail
              refine (HWY.out p g _ HBW.out).mono ?_
              rintro e w6 hpost
              rcases hpost with ⟨hing, c, Ac, cc, rfl, hch, hcc, hrow, hb6⟩ | ⟨hing, rfl, hb6⟩
              · have B6 := Lib.hid (HBW.out.trans (hb6.mono HBW.out.size))
                have B6' := Lib.hid (HBJ.out.trans (hb6.mono HBJ.out.size))
                have HU6 := Lib.hid (HUJ.out.below hb6)
                have hi := HIN.out p g w6 B6.out
                have hh := HH.out
                rw [inB_yes hing] at hi hh
                have HI := Lib.hid hi
                have HHH := Lib.hid hh
                have HROW := Lib.hid (hrow.base (Nat.zero_le _))
                have HPC := Lib.hid (fun w' (hw : Below W2.heap.size W2 w') (hr : Row w' 0 1 Ac c.length (iv c)) => HPV.out p g c w' hw Ac cc hr hch hcc)
                obtain ⟨q0, q1⟩ := HGC.out _ B6.out
                clear hing hch hcc hrow hb6 hi hh k0 k1
                go_wp2_with (first
                  | (go_at_call 26; (with_reducible refine HI.out.mono ?_); rintro e w7 ⟨rfl, hb7⟩; have B7 := Lib.hid (B6.out.trans (hb7.mono B6.out.size)); have B7' := Lib.hid (B6'.out.trans (hb7.mono B6'.out.size)); have HU7 := Lib.hid (HU6.out.below hb7); have HC7 := Lib.hid (HROW.out.below hb7); obtain ⟨r0, r1⟩ := HGC.out _ B7.out; clear hb7 q0 q1)
                  | (go_at_call 34; (refine (HHH.out _ AU cU HU7.out).mono ?_); rintro e w7' ⟨rfl, rfl⟩)
                  | (go_at_call 33; (refine (HPC.out _ B7.out HC7.out).mono ?_); rintro e w8 ⟨rfl, hb8⟩; have B8 := Lib.hid (B7'.out.trans (hb8.mono B7'.out.size)); clear hb8))
                exact ⟨⟨j + 1, by omega, by go_num, B8.out⟩, by simp [intOf]; omega⟩
              · have B6 := Lib.hid (HBW.out.trans (hb6.mono HBW.out.size))
                have B6' := Lib.hid (HBJ.out.trans (hb6.mono HBJ.out.size))
                have HU6 := Lib.hid (HUJ.out.below hb6)
                have hi := HIN.out p g w6 B6.out
                have hh := HH.out
                rw [inB_no hing] at hi hh
                have HI := Lib.hid hi
                have HHH := Lib.hid hh
                obtain ⟨q0, q1⟩ := HGC.out _ B6.out
                clear hing hb6 hi hh k0 k1
                go_wp2_with (first
                  | (go_at_call 26; (with_reducible refine HI.out.mono ?_); rintro e w7 ⟨rfl, hb7⟩; have B7 := Lib.hid (B6.out.trans (hb7.mono B6.out.size)); have B7' := Lib.hid (B6'.out.trans (hb7.mono B6'.out.size)); have HU7 := Lib.hid (HU6.out.below hb7); clear hb7 q0 q1)
                  | (go_at_call 34; (refine (HHH.out _ AU cU HU7.out).mono ?_); rintro e w7' ⟨rfl, rfl⟩))
                exact ⟨⟨j + 1, by omega, by go_num, B7'.out⟩, by simp [intOf]; omega⟩
          · obtain rfl : n1 = j := by omega
            clear hbl
            go_wp2_with fail
            exact ⟨⟨p + 1, by omega, by go_num, HBW.out⟩, by simp [intOf]; omega⟩
      · obtain rfl : p = d.k.length := by omega
        go_wp2_with fail
        refine (awake_any _).mono ?_
        rintro e w9 ⟨rfl, hb9⟩
        have HB9 := Lib.hid (HB2.out.trans ((HBK.out.trans (hb9.mono HBK.out.size)).mono HB2.out.size))
        clear hb9
        go_wp2_with fail
        go_ret
        exact ⟨rfl, HB9.out⟩

/-! ### THE ROW's STEP: WRITTEN OUT: LEAVE IT -/
set_option maxRecDepth 100000 in
theorem lifted (os : Os) (started : os.Started) (H : Type) (enc : TypeId × Value → H) :
    ReturnsInHanded {} Try.checked os 4 .any (Rows.directoryProofsSpec.pre6 enc Try.prog Try.f4 Rows.directoryProofsRow.domain false) (Rows.directoryProofsSpec.post enc Try.prog Try.f4 false true false false) := by
  refine returnsInHanded_of_change (C := Try.checked) own started (by kernel_rfl) Try.func4
    (ChangeSpec.witness6 (enc := enc) (C := Try.checked) false ⟨#[], #[.slice none 0 0], []⟩ 8 (by kernel_rfl) (by kernel_rfl) (by kernel_rfl) (by kernel_rfl)) ?_
  intro W base args ds gs before hval0 hW hcnd _
  have hval : ∀ (j : Nat) t v, Try.f4.params[j]? = some t → args[j]? = some v → Value.okWide Try.prog W .any base t v := hval0
  have hW' := hW
  obtain ⟨p, q, hA0, hV, rfl, hfz, hnd⟩ := hW
  have hA : DataW.TrodAll enc Try.prog W 0 (fun _ => true) true Try.f4.params.toList args.toList ds p := hA0
  rw [Try.params4] at hA hval
  obtain ⟨v0, vs0, d0, ds0, p0, q0, hargs, rfl, rfl, h0, r0⟩ := trodAll_cons hA
  obtain ⟨rfl, rfl, rfl⟩ := trodAll_nil r0
  obtain rfl : args = #[v0] := by cases args; simp_all
  obtain ⟨rfl, rfl⟩ := trodVars_none hV
  obtain ⟨a0, len0, cap0, rfl⟩ := okWide_slice Try.underlying22 (hval 0 22 v0 rfl rfl)
  have k0 := h0
  have lt0 : ∀ x ∈ p0, x.block < W.heap.size := by obtain ⟨m, hm⟩ := k0; exact DataW.trod_lt m _ _ _ hm
  obtain ⟨z0, w0⟩ : ∃ zs, IsRow .i64 W a0 len0 cap0 zs := by
    obtain ⟨fuel, hf⟩ := h0
    rcases open_ints Try.underlying22 Try.underlying3 (by kernel_rfl) hf with ⟨hcs, _⟩ | ⟨x, l, c, zs, hcs, _, hl, hm, hz, _, hcell, hwz⟩
    · simp [Value.cells] at hcs
      obtain ⟨rfl, rfl, rfl⟩ := hcs
      exact ⟨[], .inl ⟨rfl, rfl, rfl, rfl⟩⟩
    · simp [Value.cells] at hcs
      obtain ⟨rfl, rfl, rfl⟩ := hcs
      exact ⟨zs, .inr ⟨_, rfl, hl, hm, by simpa using hz, hcell, hwz⟩⟩
  clear hA0 hval0
  refine (walk a0 len0 cap0 z0 W w0).mono fun e W' ⟨he, bel⟩ => ?_
  subst he
  exact ⟨_, rfl, _, _, _, [], _, [], hW', trodAll_mk1 (shut_bool Try.underlying4 _), (trodAll_cons_mk (Below.trod laidOut (by kernel_rfl) (of_decide_eq_true (by kernel_rfl)) k0 bel lt0) trodAll_mk0), rfl, bel.frame _, fun h => by cases h⟩

theorem over : Rows.directoryProofsRow.holds Try.pinned (OpenSpec.ofChange Rows.directoryProofsSpec) :=
  OpenClaim.holds_of_wide 4 Try.f4 rfl rfl rfl rfl rfl rfl rfl ⟨rfl, rfl, rfl, rfl, rfl⟩ rfl rfl rfl rfl rfl (by kernel_rfl) Try.func4 (by kernel_rfl)
    (of_decide_eq_true (by kernel_rfl)) (by unfold Func.isWrapper; first | (rw [if_pos (by decide +kernel)]; kernel_rfl) | (rw [if_neg (by decide +kernel)]; exact ⟨rfl, rfl⟩))
    (fun os started H enc _ => lifted os started H enc)

/-- ████ THE STATEMENT ████ -/
theorem proved : Rows.DirectoryProofsSaid := over
#print axioms proved
end Go.Proofs.Ytdhofngildjifaa.directoryProofs
