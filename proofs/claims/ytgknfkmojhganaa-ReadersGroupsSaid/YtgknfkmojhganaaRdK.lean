import Derived.Test.YtgknfkmojhganaaRdJ
namespace Go.Proofs.Ytgknfkmojhganaa.Di
open Go.RowKit
open Go.Proofs.Ytgknfkmojhganaa.Tp
set_option linter.unusedVariables false
set_option linter.unusedSimpArgs false

theorem idx_filter (q r : Nat → Bool) : ∀ n, (idx q n).filter r = idx (fun i => q i && r i) n
  | 0 => rfl
  | n + 1 => by
    have ih := idx_filter q r n
    cases hq : q n with
    | true =>
      rw [idx_tt hq, List.filter_append, ih]
      cases hr : r n with
      | true => rw [idx_tt (q := fun i => q i && r i) (by simp [hq, hr])]; simp [hr]
      | false => rw [idx_ff (q := fun i => q i && r i) (by simp [hq, hr])]; simp [hr]
    | false => rw [idx_ff hq, idx_ff (q := fun i => q i && r i) (by simp [hq]), ih]
/-- The groups in which a principal is. -/
noncomputable def grB (d : Dy) (t p g : Nat) : Bool := upB d t p g && g != p
theorem upB_out {d : Dy} {t p : Nat} (hp : ¬ p < d.k.length) (q : Nat) : upB d t p q = false := by
  cases h : upB d t p q with
  | false => rfl
  | true => exact absurd ((upB_iff d t p q).1 h).1 hp
theorem in_up {d : Dy} (h : Ok d) {t p q : Nat} (hp : p < d.k.length) (hq : q < d.k.length) : (p == q || (gB d q && grB d t p q)) = upB d t p q := by
  apply Bool.eq_iff_iff.2
  unfold grB
  rw [Bool.or_eq_true, Bool.and_eq_true, Bool.and_eq_true, beq_iff_eq, upB_iff]
  constructor
  · rintro (rfl | ⟨-, h2, -⟩)
    · exact ⟨hp, .here⟩
    · exact h2
  · rintro ⟨-, hr⟩
    rcases rc_group h hr with e | ⟨e1, e2⟩
    · exact .inl e.symm
    · by_cases e : p = q
      · exact .inl e
      · refine .inr ⟨?_, ⟨hp, hr⟩, bne_iff_ne.2 (Ne.symm e)⟩
        unfold gB
        rw [decide_eq_true e1, Bool.true_and]
        exact beq_iff_eq.2 e2
set_option maxRecDepth 100000 in
set_option maxHeartbeats 4000000 in
/-- The reference's Upward. -/
theorem rupw_any (d : Dy) (v : Vd) (p t : Nat) (w : World) (h : DL w 0 d v) (hok : Ok d) :
    Calls Try.prog 16 #[.agg (gd d v), .int .i64 (p : Int), .int .i64 (t : Int)] w (SmPost (upB d t p) d.k.length w) := by
  have hn := hok.n
  have HB0 := Lib.hid (box_below w (.cells (gd d v) 29))
  have R0 := Lib.hid (heap_alloc_new w (.cells (gd d v) 29))
  have HVA := Lib.hid (rvalid_any d v _ (h.below HB0.out) hok)
  have HEX := Lib.hid (fun w' => rexists_any d v p w' (by omega))
  have HFD := Lib.hid (show (#[.slice v.A1 d.k.length v.c1, .slice v.A2 d.e.length v.c2] : Array Value) = gd d v from rfl)
  obtain ⟨g0, g1⟩ := gdCells R0.out
  have lR := row_lt R0.out
  obtain ⟨i0, hi1, hz0, hz1, hz2⟩ := info_parts zinfo3
  have HI := Lib.hid hi1
  have HI0 := Lib.hid hz0
  have HI1 := Lib.hid hz1
  have HI2 := Lib.hid hz2
  clear hi1 hz0 hz1 hz2
  by_cases hp : p < d.k.length
  · have hups := fun w' (hb : Below w.heap.size w w') => ups_any d v p t w' (h.below hb) hok hp
    unfold UpsPost at hups
    have HUP := Lib.hid hups
    rw [decide_eq_true hp] at HEX
    clear h hok hups
    go_enter Try.func16, Try.ntmps16
    go_wp2_with (first
      | (go_at_call 42; rw [HFD.out]; refine HVA.out.mono ?_; rintro e w1 ⟨rfl, hb1⟩; have B1 := Lib.hid (HB0.out.trans (hb1.mono HB0.out.size)); have D1 := Lib.hid ((hb1.block _ lR).trans R0.out); clear hb1 g0 g1; obtain ⟨g0, g1⟩ := gdCells D1.out)
      | (go_at_call 36; rw [HFD.out]; refine (HEX.out _).mono ?_; rintro e w2 ⟨rfl, hb2⟩; have B2 := Lib.hid (B1.out.trans (hb2.mono B1.out.size)); have D2 := Lib.hid ((hb2.block _ (row_lt D1.out)).trans D1.out); clear hb2 g0 g1; obtain ⟨g0, g1⟩ := gdCells D2.out)
      | (go_at_call 43; rw [HFD.out]; refine (HUP.out _ B2.out).mono ?_; rintro e w3 ⟨G, rfl, hmk, hb3⟩; have B3 := Lib.hid (B2.out.trans (hb3.mono B2.out.size)); have HMK := Lib.hid hmk; clear hmk hb3 g0 g1))
    generalize upB d t p = m at *
    go_loopw [7, 24] (fun ov ii wr => ∃ (k : Nat) (A' : Option Addr) (c' : Nat), k ≤ d.k.length ∧ ov = .slice A' (cnt m k) c' ∧ ii = .int .i64 (k : Int) ∧ wr.ownsRow w3.heap.size 3 1 (.slice A' (cnt m k) c') (cnt m k) (iv (idx m k)) ∧ Below w3.heap.size w3 wr) (fun _ ii _ => d.k.length - (intOf ii).toNat)
    case atStart => exact ⟨0, none, 0, by omega, rfl, rfl, own_nil _ _ _ _, Below.refl _ _⟩
    case round =>
      obtain ⟨k, A', c', hk, rfl, rfl, hown, hbl⟩ := hrel
      have HO := Lib.hid hown
      have HBL := Lib.hid hbl
      have hcn := cnt_le m k
      have hsz := hbl.size
      by_cases hlt : k < d.k.length
      · obtain ⟨pc, -⟩ := (show Mk2 wr w2.heap.size G d.k.length m from own_below HMK.out hbl).cell hlt
        have k0 : (0 : Int) ≤ (k : Int) := by omega
        have k1 : (k : Int) < (d.k.length : Int) := by omega
        have HIT := Lib.hid (fun h => (idx_tt h : idx m (k + 1) = idx m k ++ [k]))
        have HIF := Lib.hid (fun h => (idx_ff h : idx m (k + 1) = idx m k))
        have HCT := Lib.hid (fun h => (cnt_tt h : cnt m (k + 1) = cnt m k + 1))
        have HCF := Lib.hid (fun h => (cnt_ff h : cnt m (k + 1) = cnt m k))
        have HIS := Lib.hid (iv_snoc (idx m k) k)
        generalize m k = bo at *
        clear hown hbl
        cases bo with
        | false =>
          have HX := Lib.hid (HIF.out rfl)
          have HC := Lib.hid (HCF.out rfl)
          clear HIT HIF HCT HCF
          go_wp2_with fail
          exact ⟨⟨k + 1, A', c', by omega, by rw [HC.out], by go_num, by rw [HC.out, HX.out]; exact HO.out, HBL.out⟩, by simp [intOf]; omega⟩
        | true =>
          have HX := Lib.hid (HIT.out rfl)
          have HC := Lib.hid (HCT.out rfl)
          clear HIT HIF HCT HCF
          go_wp2_with (at_builtin; refine wpList_append_own _ rfl (.tmp 30) (.tmp 32) 22 rfl w3.heap.size 3 i0 (.int .i64 0) 1 8 Try.underlying22 HI.out HI0.out HI1.out HI2.out rfl (by decide) _ (cnt m k) (iv (idx m k)) rfl (HO.out.alloc _) ⟨wr.heap.size, 0, none⟩ 1 1 [.int .i64 (k : Int)] rfl rfl (World.news_of_block (heap_alloc_new wr _)) (by simp [Value.oneCell']) (by unfold maxLen; omega) (by omega) (by simp; omega) ?_; intro v' w6 hown6 hgr _; obtain ⟨A6, c6, rfl⟩ := own_form hown6; have O6 := Lib.hid hown6; have B6 := Lib.hid ((HBL.out.trans ((box_below _ _).mono HBL.out.size)).grown hgr (by simp; omega) (fun g e => (HO.out.lt g e).1)); clear hown6 hgr)
          exact ⟨⟨k + 1, A6, c6, by omega, by rw [HC.out], by go_num, by rw [HC.out, HX.out, HIS.out]; exact O6.out, B6.out⟩, by simp [intOf]; omega⟩
      · obtain rfl : k = d.k.length := by omega
        clear hown hbl
        go_wp2_with fail
        go_ret
        exact ⟨A', c', by first | rfl | simp, own_base HO.out B3.out.size, B3.out.trans (HBL.out.mono B3.out.size)⟩
  · have hz := cnt_none (p := upB d t p) (n := d.k.length) (fun j hj => upB_out hp j)
    rw [decide_eq_false hp] at HEX
    unfold SmPost
    rw [hz.1, hz.2]
    clear h hok hz
    go_enter Try.func16, Try.ntmps16
    go_wp2_with (first
      | (go_at_call 42; rw [HFD.out]; refine HVA.out.mono ?_; rintro e w1 ⟨rfl, hb1⟩; have B1 := Lib.hid (HB0.out.trans (hb1.mono HB0.out.size)); have D1 := Lib.hid ((hb1.block _ lR).trans R0.out); clear hb1 g0 g1; obtain ⟨g0, g1⟩ := gdCells D1.out)
      | (go_at_call 36; rw [HFD.out]; refine (HEX.out _).mono ?_; rintro e w2 ⟨rfl, hb2⟩; have B2 := Lib.hid (B1.out.trans (hb2.mono B1.out.size)); clear hb2 g0 g1))
    go_ret
    exact ⟨none, 0, by first | rfl | simp, own_nil _ _ _ _, B2.out⟩
set_option maxRecDepth 100000 in
set_option maxHeartbeats 4000000 in
/-- The reference's Groups. -/
theorem rgrp_any (d : Dy) (v : Vd) (p t : Nat) (w : World) (h : DL w 0 d v) (hok : Ok d) :
    Calls Try.prog 52 #[.agg (gd d v), .int .i64 (p : Int), .int .i64 (t : Int)] w fun e w' => ∃ A c, e = .returned (.slice A (cnt (grB d t p) d.k.length) c) ∧ Row w' 0 1 A (cnt (grB d t p) d.k.length) (iv (idx (grB d t p) d.k.length)) ∧ Below w.heap.size w w' := by
  have hn := hok.n
  have HB0 := Lib.hid (box_below w (.cells (gd d v) 29))
  have R0 := Lib.hid (heap_alloc_new w (.cells (gd d v) 29))
  have hup := rupw_any d v p t _ (h.below HB0.out) hok
  unfold SmPost at hup
  have HUP := Lib.hid hup
  have HFD := Lib.hid (show (#[.slice v.A1 d.k.length v.c1, .slice v.A2 d.e.length v.c2] : Array Value) = gd d v from rfl)
  obtain ⟨g0, g1⟩ := gdCells R0.out
  obtain ⟨i0, hi1, hz0, hz1, hz2⟩ := info_parts zinfo3
  have HI := Lib.hid hi1
  have HI0 := Lib.hid hz0
  have HI1 := Lib.hid hz1
  have HI2 := Lib.hid hz2
  have hcl := cnt_le (upB d t p) d.k.length
  have hil := idx_len (upB d t p) d.k.length
  have HFI := Lib.hid (show (idx (upB d t p) d.k.length).filter (fun g => g != p) = idx (grB d t p) d.k.length from idx_filter _ _ _)
  rw [← idx_len (grB d t p), ← HFI.out]
  generalize cnt (upB d t p) d.k.length = nu at *
  generalize idx (upB d t p) d.k.length = L at *
  have HIL := Lib.hid hil
  clear hi1 hz0 hz1 hz2 h hok hup hil HFI
  go_enter Try.func52, Try.ntmps52
  go_wp2_with (go_at_call 16; rw [HFD.out]; refine HUP.out.mono ?_; rintro e w1 ⟨X, xc, rfl, hown, hb1⟩; have B1 := Lib.hid (HB0.out.trans (hb1.mono HB0.out.size)); have HR := Lib.hid ((row_of_own hown).base (Nat.zero_le _)); clear hown hb1 g0 g1)
  go_loopw [7, 15] (fun ov ii wr => ∃ (k : Nat) (A' : Option Addr) (c' : Nat), k ≤ nu ∧ ov = .slice A' ((L.take k).filter (fun g => g != p)).length c' ∧ ii = .int .i64 (k : Int) ∧ wr.ownsRow w1.heap.size 3 1 (.slice A' ((L.take k).filter (fun g => g != p)).length c') ((L.take k).filter (fun g => g != p)).length (iv ((L.take k).filter (fun g => g != p))) ∧ Below w1.heap.size w1 wr) (fun _ ii _ => nu - (intOf ii).toNat)
  case atStart => exact ⟨0, none, 0, by omega, by simp, rfl, by simpa [iv] using own_nil _ _ _ _, Below.refl _ _⟩
  case round =>
    obtain ⟨k, A', c', hk, rfl, rfl, hown, hbl⟩ := hrel
    have HO := Lib.hid hown
    have HBL := Lib.hid hbl
    have hsz := hbl.size
    by_cases hlt : k < nu
    · obtain ⟨b, off, hX, -, -, y0⟩ := (HR.out.below hbl).int hlt
      subst hX
      have HTS := Lib.hid (show L.take (k + 1) = L.take k ++ [L.getD k 0] by
        rw [List.take_succ_eq_append_getElem (by rw [HIL.out]; exact hlt), List.getD_eq_getElem?_getD, List.getElem?_eq_getElem (by rw [HIL.out]; exact hlt)]
        rfl)
      have hfl : ((L.take k).filter (fun g => g != p)).length ≤ 24 := by
        have h1 := List.length_filter_le (fun g => g != p) (L.take k)
        rw [List.length_take] at h1
        omega
      generalize L.getD k 0 = x at *
      have HFS := Lib.hid (show (L.take (k + 1)).filter (fun g => g != p) = (L.take k).filter (fun g => g != p) ++ [x].filter (fun g => g != p) by rw [HTS.out, List.filter_append])
      generalize (L.take k).filter (fun g => g != p) = F at *
      obtain ⟨nf, hnf⟩ : ∃ nf, F.length = nf := ⟨_, rfl⟩
      rw [hnf] at HO hfl
      rw [hnf]
      have HNF := Lib.hid hnf
      have HIS := Lib.hid (iv_snoc F x)
      have k0 : (0 : Int) ≤ (k : Int) := by omega
      have k1 : (k : Int) < (nu : Int) := by omega
      clear hown hbl hnf
      by_cases hxp : x = p
      · have e1 : ((x : Int) != (p : Int)) = false := by rw [hxp]; simp
        have e1n : (x != p) = false := by rw [hxp]; simp
        have HFE := Lib.hid (show (L.take (k + 1)).filter (fun g => g != p) = F by rw [HFS.out]; simp [e1n])
        clear hxp
        go_wp2_with fail
        exact ⟨⟨k + 1, A', c', by omega, by rw [HFE.out, HNF.out], by go_num, by rw [HFE.out, HNF.out]; exact HO.out, HBL.out⟩, by simp [intOf]; omega⟩
      · have e1 : ((x : Int) != (p : Int)) = true := bne_iff_ne.2 (by omega)
        have e1n : (x != p) = true := bne_iff_ne.2 hxp
        have HFE := Lib.hid (show (L.take (k + 1)).filter (fun g => g != p) = F ++ [x] by rw [HFS.out]; simp [e1n])
        have HLE := Lib.hid (show (F ++ [x]).length = nf + 1 by simp [HNF.out])
        go_wp2_with (at_builtin; refine wpList_append_own _ rfl (.tmp 22) (.tmp 24) 22 rfl w1.heap.size 3 i0 (.int .i64 0) 1 8 Try.underlying22 HI.out HI0.out HI1.out HI2.out rfl (by decide) _ nf (iv F) rfl (HO.out.alloc _) ⟨wr.heap.size, 0, none⟩ 1 1 [.int .i64 (x : Int)] rfl rfl (World.news_of_block (heap_alloc_new wr _)) (by simp [Value.oneCell']) (by unfold maxLen; omega) (by omega) (by simp; omega) ?_; intro v' w6 hown6 hgr _; obtain ⟨A6, c6, rfl⟩ := own_form hown6; have O6 := Lib.hid hown6; have B6 := Lib.hid ((HBL.out.trans ((box_below _ _).mono HBL.out.size)).grown hgr (by simp; omega) (fun g e => (HO.out.lt g e).1)); clear hown6 hgr)
        exact ⟨⟨k + 1, A6, c6, by omega, by rw [HFE.out, HLE.out], by go_num, by rw [HFE.out, HLE.out, HIS.out]; exact O6.out, B6.out⟩, by simp [intOf]; omega⟩
    · obtain rfl : k = nu := by omega
      have HTA := Lib.hid (show L.take k = L from List.take_of_length_le (by rw [HIL.out]; exact Nat.le_refl _))
      rw [HTA.out] at HO ⊢
      clear hown hbl
      go_wp2_with fail
      go_ret
      exact ⟨A', c', by first | rfl | simp, (row_of_own HO.out).base (Nat.zero_le _), B1.out.trans (HBL.out.mono B1.out.size)⟩
set_option maxRecDepth 100000 in
set_option maxHeartbeats 4000000 in
/-- The reference's In. -/
theorem rin_any (d : Dy) (v : Vd) (p g t : Nat) (w : World) (h : DL w 0 d v) (hok : Ok d) (hp : p < d.k.length) :
    Calls Try.prog 21 #[.agg (gd d v), .int .i64 (p : Int), .int .i64 (g : Int), .int .i64 (t : Int)] w fun e w' => e = .returned (.bool (gB d g && grB d t p g)) ∧ Below w.heap.size w w' := by
  have hn := hok.n
  have HB0 := Lib.hid (box_below w (.cells (gd d v) 29))
  have R0 := Lib.hid (heap_alloc_new w (.cells (gd d v) 29))
  have HVA := Lib.hid (rvalid_any d v _ (h.below HB0.out) hok)
  have hex := fun w' => rexists_any d v p w' (show d.k.length ≤ 1000 by omega)
  rw [decide_eq_true hp] at hex
  have HEX := Lib.hid hex
  have HGB := Lib.hid (fun w' (hb : Below w.heap.size w w') => rgroup_any 0 d v g w' (h.below hb) (by omega))
  have HGP := Lib.hid (fun w' (hb : Below w.heap.size w w') => rgrp_any d v p t w' (h.below hb) hok)
  have HFD := Lib.hid (show (#[.slice v.A1 d.k.length v.c1, .slice v.A2 d.e.length v.c2] : Array Value) = gd d v from rfl)
  obtain ⟨g0, g1⟩ := gdCells R0.out
  have lR := row_lt R0.out
  have HGL := Lib.hid (show gB d g = true → g < d.k.length from fun h => by
    unfold gB at h
    rw [Bool.and_eq_true, decide_eq_true_iff] at h
    exact h.1)
  have HHI := Lib.hid (fun (hg : g < d.k.length) => has_idx (grB d t p) d.k.length g hg)
  have hcn := cnt_le (grB d t p) d.k.length
  have HGG := Lib.hid (show grB d t p g = grB d t p g from rfl)
  clear h hok hex
  generalize hgb : gB d g = gb at *
  generalize grB d t p g = rg at *
  generalize cnt (grB d t p) d.k.length = nr at *
  generalize idx (grB d t p) d.k.length = LR at *
  clear hgb
  cases gb with
  | false =>
    go_enter Try.func21, Try.ntmps21
    go_wp2_with (first
      | (go_at_call 42; rw [HFD.out]; refine HVA.out.mono ?_; rintro e w1 ⟨rfl, hb1⟩; have B1 := Lib.hid (HB0.out.trans (hb1.mono HB0.out.size)); have D1 := Lib.hid ((hb1.block _ lR).trans R0.out); clear hb1 g0 g1; obtain ⟨g0, g1⟩ := gdCells D1.out)
      | (go_at_call 36; rw [HFD.out]; refine (HEX.out _).mono ?_; rintro e w2 ⟨rfl, hb2⟩; have B2 := Lib.hid (B1.out.trans (hb2.mono B1.out.size)); have D2 := Lib.hid ((hb2.block _ (row_lt D1.out)).trans D1.out); clear hb2 g0 g1; obtain ⟨g0, g1⟩ := gdCells D2.out)
      | (go_at_call 51; rw [HFD.out]; refine (HGB.out _ B2.out).mono ?_; rintro e w3 ⟨rfl, hb3⟩; have B3 := Lib.hid (B2.out.trans (hb3.mono B2.out.size)); clear hb3 g0 g1))
    go_ret
    exact ⟨by first | rfl | simp, B3.out⟩
  | true =>
    have hgl := HGL.out rfl
    have hhi := HHI.out hgl
    have HHA := Lib.hid (fun X xc w' (hr : Row w' 0 1 X nr (iv LR)) => (by have h := has_any LR g X nr xc w' hr (by omega); rw [hhi] at h; exact h : Calls Try.prog 22 #[.slice X nr xc, .int .i64 (g : Int)] w' fun e w'' => e = .returned (.bool rg) ∧ w'' = w'))
    clear hgl hhi HHI HGL
    go_enter Try.func21, Try.ntmps21
    go_wp2_with (first
      | (go_at_call 42; rw [HFD.out]; refine HVA.out.mono ?_; rintro e w1 ⟨rfl, hb1⟩; have B1 := Lib.hid (HB0.out.trans (hb1.mono HB0.out.size)); have D1 := Lib.hid ((hb1.block _ lR).trans R0.out); clear hb1 g0 g1; obtain ⟨g0, g1⟩ := gdCells D1.out)
      | (go_at_call 36; rw [HFD.out]; refine (HEX.out _).mono ?_; rintro e w2 ⟨rfl, hb2⟩; have B2 := Lib.hid (B1.out.trans (hb2.mono B1.out.size)); have D2 := Lib.hid ((hb2.block _ (row_lt D1.out)).trans D1.out); clear hb2 g0 g1; obtain ⟨g0, g1⟩ := gdCells D2.out)
      | (go_at_call 51; rw [HFD.out]; refine (HGB.out _ B2.out).mono ?_; rintro e w3 ⟨rfl, hb3⟩; have B3 := Lib.hid (B2.out.trans (hb3.mono B2.out.size)); have D3 := Lib.hid ((hb3.block _ (row_lt D2.out)).trans D2.out); clear hb3 g0 g1; obtain ⟨g0, g1⟩ := gdCells D3.out)
      | (go_at_call 52; rw [HFD.out]; refine (HGP.out _ B3.out).mono ?_; rintro e w4 ⟨X, xc, rfl, hrow, hb4⟩; have B4 := Lib.hid (B3.out.trans (hb4.mono B3.out.size)); have HR := Lib.hid hrow; clear hrow hb4 g0 g1)
      | (go_at_call 22; refine (HHA.out _ _ _ HR.out).mono ?_; rintro e w5 ⟨rfl, rfl⟩))
    go_ret
    exact ⟨by first | rfl | simp, B4.out⟩

end Go.Proofs.Ytgknfkmojhganaa.Di
