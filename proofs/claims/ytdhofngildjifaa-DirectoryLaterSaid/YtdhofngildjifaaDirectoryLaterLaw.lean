/-
  The Go function leakresponse/leakresponselaw23.DirectoryLater returns true for every list of numbers, and leaves what was there as it was; no conditions. What happens later changes nothing at an earlier time, and a join more never takes a member away.
-/
import Derived.Test.YtdhofngildjifaaDjH
import Derived.Test.YtdhofngildjifaaRows
import Derived.WalkKit
import Derived.ProofKit
import Derived.OpenShut
import Derived.ShutString
import Derived.ChangeOld
import Derived.Below
namespace Go.Proofs.Ytdhofngildjifaa.directoryLater
open Go.ChangeShapes Go.WideShapes Go.ChangeAt Go.RowKit
open Go.ChangeMaps (open_string shut_string)
open Go.Proofs.Ytdhofngildjifaa.Tp
open Go.Proofs.Ytdhofngildjifaa.Di
set_option linter.unusedVariables false

set_option maxRecDepth 100000 in
set_option maxHeartbeats 4000000 in
theorem walk (a0 : Option Addr) (len0 cap0 : Nat) (z0 : List Int) (w : World) (w0 : IsRow .i64 w a0 len0 cap0 z0) :
    Calls Try.prog 6 #[.slice a0 len0 cap0] w fun e w' => e = .returned (.bool true) ∧ Below w.heap.size w w' := by
  have hm := w0.at_.1
  unfold maxLen at hm
  have HTP := Lib.hid (tape_new w0)
  have HBX := Lib.hid (box_below w (.cells #[.slice a0 len0 cap0, .int .i64 0] 29))
  clear w0
  by_cases hlen : 300 < len0
  · have hl0 : (300 : Int) < (len0 : Int) := by omega
    go_enter Try.func6, Try.ntmps6
    go_wp2_with (go_at_call 10; refine (awake_any _).mono ?_; rintro e w1 ⟨rfl, hb1⟩; have HB1 := Lib.hid hb1; clear hb1)
    go_ret
    exact ⟨rfl, HB1.out⟩
  · have hl0 : (len0 : Int) ≤ (300 : Int) := by omega
    go_enter Try.func6, Try.ntmps6
    go_wp2_with fail
    refine (directory_any w.heap.size _ HTP.out (by simp)).mono ?_
    rintro e w1 ⟨d, v, rfl, hmk, hrl, hg1, ht1⟩
    have hb1 : Below w.heap.size w w1 := HBX.out.grown hg1 HBX.out.size (fun k e => by cases e; exact Nat.le_refl _)
    have hs1 := hg1.size
    simp at hs1
    have HQ := Lib.hid (heap_alloc_new w1 (.cells (gd d v) 25))
    have HDL := Lib.hid ((hrl.base (show w.heap.size + 1 ≤ _ by simp)).below (box_below w1 (.cells (gd d v) 25)))
    have HB1 := Lib.hid (hb1.trans ((box_below w1 (.cells (gd d v) 25)).mono hb1.size))
    have HT1 := Lib.hid (tape_new2 ht1 (.cells (gd d v) 25))
    have HMK := Lib.hid hmk
    have hn1 := hmk.n1
    have hn7 := hmk.n7
    clear hrl hg1 ht1 hb1 hmk
    obtain ⟨g0, g1⟩ := gdCells HQ.out
    go_wp2_with (with_reducible (show wpList _ _ _ (⟨none, .store 25 (.tmp 4) (.tmp 23), _, _, _, _⟩ :: _) _ _); refine wpList_store_row (o := ⟨none, .store 25 (.tmp 4) (.tmp 23), _, _, _, _⟩) rfl 25 (.tmp 4) (.tmp 23) rfl w1.heap.size (gd d v) rfl rfl 25 zD (heap_alloc_new _ _) (info25 _ _) rfl (gd_one _ _) ?_; rw [new_set])
    generalize w1.heap.size = Q at *
    generalize w1.alloc (.cells (gd d v) 25) = W2 at *
    have HQ2 := HQ
    have HD2 := HDL
    have HB2 := HB1
    have HT2 := HT1
    clear HQ HDL HB1 HT1 g0 g1
    have HOK := Lib.hid HMK.out.ok
    have lQ : Q < W2.heap.size := row_lt HQ2.out
    have hgc := fun w' (hw : Below W2.heap.size W2 w') => gdCells ((hw.block _ lQ).trans HQ2.out)
    have HGC := Lib.hid hgc
    have hgp := groups_any _ d v W2 HD2.out (by omega)
    simp only [gd] at hgp
    have HGP := Lib.hid hgp
    obtain ⟨g0, g1⟩ := gdCells HQ2.out
    clear hgc hgp
    go_wp2_with fail
    refine HGP.out.mono ?_
    rintro e w3 ⟨Ag, cg, rfl, hown3, hb3⟩
    have hcn := cnt_le (gB d) d.k.length
    have hpm : ∀ r, r < cnt (gB d) d.k.length → (idx (gB d) d.k.length).getD r 0 < d.k.length ∧ kd d ((idx (gB d) d.k.length).getD r 0) = 2 := fun r hr => by
      rw [← idx_len] at hr
      have hm : (idx (gB d) d.k.length).getD r 0 ∈ idx (gB d) d.k.length := by
        rw [List.getD_eq_getElem?_getD, List.getElem?_eq_getElem hr]
        exact List.getElem_mem hr
      obtain ⟨h1, h2⟩ := (idx_mem _ _ _).1 hm
      exact ⟨h1, ((gB_iff _ _).1 h2).2⟩
    generalize cnt (gB d) d.k.length = n1 at *
    generalize idx (gB d) d.k.length = L1 at *
    have HPM := Lib.hid hpm
    have HR3 := Lib.hid (row_of_own hown3)
    have B3 := Lib.hid hb3
    have HT3 := Lib.hid (tape_below HT2.out hb3)
    obtain ⟨k0, k1⟩ := HGC.out _ hb3
    clear hpm hown3 hb3 g0 g1
    by_cases h0 : n1 = 0
    · have e0 : ((n1 : Int) == 0) = true := by rw [h0]; rfl
      clear h0
      go_wp2_with (go_at_call 10; refine (awake_any _).mono ?_; rintro e w9 ⟨rfl, hb9⟩; have HB9 := Lib.hid (HB2.out.trans ((B3.out.trans (hb9.mono B3.out.size)).mono HB2.out.size)); clear hb9)
      go_ret
      exact ⟨rfl, HB9.out⟩
    · have e0 : ((n1 : Int) == 0) = false := beq_eq_false_iff_ne.2 (by omega)
      have hT3 : w.heap.size < w3.heap.size := by have := B3.out.size; omega
      obtain ⟨b, off, hAg, -, lb, -⟩ := HR3.out.int (i := 0) (by omega)
      subst hAg
      have hcells : ∀ w', w3.grownBy w' (some w.heap.size) → ∀ r, r < n1 → w'.cell? ⟨b, off + r, none⟩ = some (.int .i64 ((L1.getD r 0 : Nat) : Int)) := fun w' hg r hr => by
        have hr3 : Row w3 W2.heap.size 1 (some ⟨b, off, none⟩) n1 (iv L1) := HR3.out
        obtain ⟨b', off', e, -, -, y⟩ := (hr3.grown hg (fun g e => by cases e; omega)).int hr
        cases e
        exact y
      have hnx1 := fun w' (h : TapeOk w' w.heap.size) => next_any w.heap.size n1 w' h (by omega) (by omega)
      have hnx2 := fun w' (h : TapeOk w' w.heap.size) => next_any w.heap.size d.k.length w' h (by omega) (by omega)
      have HNX1 := Lib.hid hnx1
      have HNX2 := Lib.hid hnx2
      have hk : ∀ w', w3.grownBy w' (some w.heap.size) → TapeOk w' w.heap.size → (w'.cell? ⟨Q, 0, none⟩ = some (.slice v.A1 d.k.length v.c1) ∧ (∀ r, r < n1 → w'.cell? ⟨b, off + r, none⟩ = some (.int .i64 ((L1.getD r 0 : Nat) : Int))) ∧ w3.grownBy w' (some w.heap.size) ∧ TapeOk w' w.heap.size) := fun w' hg ht =>
        ⟨(gdCells ((hg.block Q (by have := B3.out.size; omega) (fun e => by injection e; omega)).trans ((B3.out.block _ lQ).trans HQ2.out))).1, hcells w' hg, hg, ht⟩
      have HK := Lib.hid hk
      have gd0 : w3.grownBy w3.drew (some w.heap.size) := gb_drewN w3 1 _
      have td0 : TapeOk w3.drew w.heap.size := HT3.out
      clear hcells hnx1 hnx2 hk h0
      go_wp2_with fail
      go_region_held3 (fun w' => w'.cell? ⟨Q, 0, none⟩ = some (.slice v.A1 d.k.length v.c1) ∧ (∀ r, r < n1 → w'.cell? ⟨b, off + r, none⟩ = some (.int .i64 ((L1.getD r 0 : Nat) : Int))) ∧ w3.grownBy w' (some w.heap.size) ∧ TapeOk w' w.heap.size)
        (first | (with_reducible assumption) | (with_reducible exact HK.out _ gd0 td0) | (with_reducible exact HK.out _ ga ta) | (with_reducible exact HK.out _ gn tn))
        (first
          | (go_at_call 15; (with_reducible refine (HNX1.out _ ?_).mono ?_); (go_split_ands; with_reducible assumption); rintro e wm ⟨zi, a1, b1, rfl, hga, hta⟩; obtain ⟨r, rfl⟩ : ∃ z : Nat, zi = z := ⟨zi.toNat, by omega⟩; go_split_ands; have ga : w3.grownBy wm (some w.heap.size) := gb_trans (by with_reducible assumption) hga; have ta := hta; have r0 : (0 : Int) ≤ (r : Int) := (by omega); have r1 : (r : Int) < (n1 : Int) := (by omega); have r2 : r < n1 := (by omega); clear hga hta)
          | (go_at_call 15; (with_reducible refine (HNX2.out _ ?_).mono ?_); (go_split_ands; with_reducible assumption); rintro e wn ⟨zj, a2, b2, rfl, hgn, htn⟩; obtain ⟨p, rfl⟩ : ∃ z : Nat, zj = z := ⟨zj.toNat, by omega⟩; go_split_ands; have gn : w3.grownBy wn (some w.heap.size) := gb_trans (by with_reducible assumption) hgn; have tn := htn; clear hgn htn))
      obtain ⟨hgl, hg2⟩ := HPM.out r r2
      rw [List.getD_eq_getElem?_getD] at hgl hg2
      generalize L1[r]?.getD 0 = g at *
      go_split_ands
      have hgn : w3.grownBy wn (some w.heap.size) := gn
      have BN := Lib.hid ((HB2.out.trans (B3.out.mono HB2.out.size)).grown hgn (by have := B3.out.size; have := HB2.out.size; omega) (fun k e => by cases e; exact Nat.le_refl _))
      have HQN := Lib.hid ((hgn.block Q (by have := B3.out.size; omega) (fun e => by injection e; omega)).trans ((B3.out.block _ lQ).trans HQ2.out))
      have HDN := Lib.hid ((HD2.out.below B3.out).grown hgn (fun g e => by cases e; omega))
      have HPB := Lib.hid (And.intro (show p < d.k.length by omega) (And.intro hgl hg2))
      have HNX : w.heap.size + 1 ≤ Q := by omega
      have HRN := Lib.hid (HR3.out.grown hgn (fun g e => by cases e; omega))
      clear ga ta gn tn hgn gd0 td0 a1 b1 r0 r1 r2 hgl hg2 HK HNX1 HNX2 k0 k1
      by_cases hpg : g = p
      · have e5 : ((g : Int) == (p : Int)) = true := by rw [hpg]; simp
        clear hpg
        go_wp2_with (go_at_call 10; refine (awake_any _).mono ?_; rintro e w9 ⟨rfl, hb9⟩; have HB9 := Lib.hid (BN.out.trans (hb9.mono BN.out.size)); clear hb9)
        go_ret
        exact ⟨rfl, HB9.out⟩
      · have HNE := Lib.hid (show p ≠ g from fun e => hpg e.symm)
        have e5 : ((g : Int) == (p : Int)) = false := beq_eq_false_iff_ne.2 (by omega)
        obtain ⟨lt, hlt⟩ : ∃ lt, lastT d = lt := ⟨_, rfl⟩
        have hlt1 : lt ≤ 1000 := by rw [← hlt]; exact last_le HMK.out
        have HLT := Lib.hid hlt
        obtain ⟨g0, g1⟩ := gdCells HQN.out
        clear hpg hlt
        go_upto_if 49 with fail
        go_cut [8] from 46 to 58 (fun s8 wx => s8 = .int .i64 (lt : Int) ∧ wn = wx)
        case first =>
          by_cases hE : d.e.length = 0
          · have hd : decide ((0 : Int) < (d.e.length : Int)) = false := decide_eq_false (by omega)
            have hd2 : ¬ 0 < d.e.length := by omega
            have hl0 : (0 : Int) = (lt : Int) := by rw [← HLT.out]; unfold lastT; rw [if_pos hE]; rfl
            have HL0 := Lib.hid hl0
            clear hl0 hE
            go_wp2_with fail
            go_meet
            case rel => exact ⟨by rw [HL0.out], rfl⟩
          · have hd : decide ((0 : Int) < (d.e.length : Int)) = true := decide_eq_true (by omega)
            have hd2 : 0 < d.e.length := by omega
            have he11 := HMK.out.e11
            obtain ⟨m, hm⟩ : ∃ m, d.e.length = m + 1 := ⟨d.e.length - 1, by omega⟩
            obtain ⟨be, oe, hA2, -, -, y0, -, -, -⟩ := HDN.out.r2.evt (show m < d.e.length by omega)
            have hy : ((d.e.getD m m0).t : Nat) = lt := by rw [← HLT.out]; unfold lastT; rw [if_neg (by omega), show d.e.length - 1 = m by omega]; rfl
            rw [hy] at y0
            have hw1 : IntKind.i64.wrap ((d.e.length : Int) - 1) = (m : Int) := by rw [IntWalk.i64_in _ (by omega)]; omega
            have hw2 : (d.e.length : Int) - 1 = (m : Int) := by omega
            have m2' : (m : Int) ≤ 11 := by omega
            have m0' : (0 : Int) ≤ (m : Int) := by omega
            have m1' : (m : Int) < (d.e.length : Int) := by omega
            rw [hA2] at g1
            clear hE hm hy hA2
            go_wp2_with fail
            go_meet
            case rel => exact ⟨rfl, rfl⟩
        case rest =>
        obtain ⟨rfl, rfl⟩ := hcut
        have HQP := Lib.hid (heap_alloc_new wn (.cells (gd d v) 25))
        have hbp := box_below wn (.cells (gd d v) 25)
        have HDP := Lib.hid (HDN.out.below hbp)
        have BP := Lib.hid (BN.out.trans (hbp.mono BN.out.size))
        have HQ0 := Lib.hid ((hbp.block Q (row_lt HQN.out)).trans HQN.out)
        have HRP := Lib.hid (HRN.out.below hbp)
        have lQN : Q < wn.heap.size := row_lt HQN.out
        have hszN := BN.out.size
        clear hbp
        obtain ⟨j0, hj1, hy0, hy1, hy2⟩ := info_parts zinfo52
        have HJ := Lib.hid hj1
        have HJ0 := Lib.hid hy0
        have HJ1 := Lib.hid hy1
        have HJ2 := Lib.hid hy2
        have he11 := HMK.out.e11
        have lN : wn.heap.size < (wn.alloc (.cells (gd d v) 25)).heap.size := row_lt HQP.out
        obtain ⟨g0, g1⟩ := gdCells HQN.out
        clear hj1 hy0 hy1 hy2
        go_wp2_with (first
          | (at_builtin; refine app_list rfl (.const (.slice none 0 0)) (.tmp 61) (wn.alloc (.cells (gd d v) 25)).heap.size _ 23 52 rfl j0 (.agg #[.int .i64 0, .int .i64 0, .int .i64 0, .int .i64 0]) 4 32 Try.underlying23 HJ.out HJ0.out HJ1.out HJ2.out rfl (by omega) (.slice none 0 0) 0 [] rfl (own_nil _ _ _ _) v.A2 d.e.length v.c2 (ev d.e) rfl HDP.out.r2 (ev_one _) (by omega) (by omega) (Nat.le_refl _) ?_; intro v1 w5 hown1 hgr1 _; rw [Nat.zero_add, List.nil_append] at hown1; have O5 := Lib.hid hown1; have B5 := Lib.hid ((Below.refl (wn.alloc (.cells (gd d v) 25)).heap.size (wn.alloc (.cells (gd d v) 25))).grown hgr1 (Nat.le_refl _) (fun k e => by cases e)); obtain ⟨A1', c1', rfl⟩ := own_form hown1; clear hown1 hgr1)
          | (at_builtin; refine wpList_append_own _ rfl (.tmp 62) (.tmp 68) 23 rfl (wn.alloc (.cells (gd d v) 25)).heap.size 52 j0 (.agg #[.int .i64 0, .int .i64 0, .int .i64 0, .int .i64 0]) 4 32 Try.underlying23 HJ.out HJ0.out HJ1.out HJ2.out rfl (by decide) _ d.e.length (ev d.e) rfl (O5.out.alloc _) ⟨w5.heap.size, 0, none⟩ 1 1 [.int .i64 ((lt : Int) + 1), .int .i64 1, .int .i64 (p : Int), .int .i64 (g : Int)] rfl rfl (World.news_of_block (heap_alloc_new w5 _)) (by simp [Value.oneCell']) (by unfold maxLen; omega) (by omega) (by have := B5.out.size; simp; omega) ?_; intro v2 w6 hown2 hgr2 _; obtain ⟨A2', c2', rfl⟩ := own_form hown2; have B6 := Lib.hid (far_below B5.out O5.out hgr2 (Nat.le_refl _)); have hq6 := ((B6.out.block wn.heap.size lN).trans HQP.out); have Q6 := Lib.hid hq6; have O6 := Lib.hid hown2; obtain ⟨u5, u6⟩ := gdCells hq6; have f6 : w6.frozen? ⟨wn.heap.size, 1, none⟩ = false := frozen_of_row _ _ _ _ _ hq6; clear hown2 hgr2 hq6 g0 g1))
        have hset : w6.setCell ⟨wn.heap.size, 1, none⟩ (.slice A2' (d.e.length + 1) c2') = w6.setRow wn.heap.size #[.slice v.A1 d.k.length v.c1, .slice A2' (d.e.length + 1) c2'] := setCell_eq_setRow w6 wn.heap.size 1 (gd d v) 25 (0, 0) _ Q6.out
        rw [hset]
        have ho6 := O6.out
        rw [show ev d.e ++ [.int .i64 ((lt : Int) + 1), .int .i64 1, .int .i64 (p : Int), .int .i64 (g : Int)] = ev (d.e ++ [⟨lt + 1, 1, p, g⟩]) from (ev_snoc d.e ⟨lt + 1, 1, p, g⟩).symm] at ho6
        have hdl7 := addm_dl (x := ⟨lt + 1, 1, p, g⟩) (HDP.out.below B6.out) Q6.out (own_base ho6 (by omega))
        have hq7 := setRow_heap w6 wn.heap.size (gd d v) #[.slice v.A1 d.k.length v.c1, .slice A2' (d.e.length + 1) c2'] 25 (0, 0) Q6.out
        have hb7 := below_setRow (BP.out.trans (B6.out.mono BP.out.size)) hszN #[.slice v.A1 d.k.length v.c1, .slice A2' (d.e.length + 1) c2']
        have hq0 := (setRow_other w6 wn.heap.size Q #[.slice v.A1 d.k.length v.c1, .slice A2' (d.e.length + 1) c2'] (by omega)).trans ((B6.out.block Q (by simp; omega)).trans HQ0.out)
        have hdl0 := keep_dl #[.slice v.A1 d.k.length v.c1, .slice A2' (d.e.length + 1) c2'] (HDP.out.below B6.out) Q6.out
        have hrp0 := ((HRP.out.below B6.out).base (Nat.zero_le _)).setq (row_ne (HRP.out.below B6.out) Q6.out) #[.slice v.A1 d.k.length v.c1, .slice A2' (d.e.length + 1) c2']
        generalize w6.setRow wn.heap.size #[.slice v.A1 d.k.length v.c1, .slice A2' (d.e.length + 1) c2'] = W7 at *
        have HDL7 := Lib.hid hdl7
        have HQ7 := Lib.hid hq7
        have HB7 := Lib.hid hb7
        have HOK7 := Lib.hid (addm_ok HMK.out (t := lt + 1) (k := 1) (by rw [HLT.out]; omega) (by omega) (.inl rfl) HPB.out.1 HPB.out.2.1 HPB.out.2.2 HNE.out)
        have l7 : wn.heap.size < W7.heap.size := row_lt hq7
        have hgc7 : ∀ w', Below W7.heap.size W7 w' → w'.cell? ⟨wn.heap.size, 0, none⟩ = some (.slice v.A1 d.k.length v.c1) ∧ w'.cell? ⟨wn.heap.size, 1, none⟩ = some (.slice A2' (d.e.length + 1) c2') := fun w' hw => by
          have hh := (hw.block _ l7).trans HQ7.out
          refine ⟨?_, ?_⟩ <;> rw [cell_of_row _ _ _ _ _ _ hh] <;> rfl
        have HGC7 := Lib.hid hgc7
        have HGA := Lib.hid (gd_addm d v ⟨lt + 1, 1, p, g⟩ A2' c2')
        clear hset ho6 hdl7 hq7 hb7 u5 u6 f6 hgc7 O5 O6 B5 B6 Q6 HJ HJ0 HJ1 HJ2
        have HQ70 := Lib.hid hq0
        have HD70 := Lib.hid hdl0
        have HRG := Lib.hid hrp0
        clear hq0 hdl0 hrp0 HQP HDP BP HQ0 HRP HRN HDN HQN BN
        generalize wn.heap.size = P at *
        have hml := fun u q => mem_later (d := d) (x := ⟨lt + 1, 1, p, g⟩) (t := lt) (u := u) (Nat.lt_succ_self lt) q
        have hmm : ∀ u q, memB d lt u q = true → memB (addm d ⟨lt + 1, 1, p, g⟩) (lt + 1) u q = true := fun u q h => by
          have h2 := mem_more (d := d) HMK.out.ok (p := p) (g := g) (u := u) (q := q)
          rw [HLT.out] at h2
          exact h2 h
        have hnew := in_new (d := d) (t := lt + 1) HPB.out.1 HPB.out.2.1 HPB.out.2.2 HNE.out
        have hkl : (addm d ⟨lt + 1, 1, p, g⟩).k.length = d.k.length := rfl
        have hga := HGA.out
        have hdl := HDL7.out
        have hok := HOK7.out
        generalize addm d ⟨lt + 1, 1, p, g⟩ = d' at *
        generalize (⟨v.A1, v.c1, A2', c2'⟩ : Vd) = v' at *
        have hm1 := fun u w' (hw : Below W7.heap.size W7 w') => members22_any 0 d v u lt w' (HD70.out.below hw) HMK.out.ok
        have hm2 := fun u w' (hw : Below W7.heap.size W7 w') => (members22_any 0 d' v' u lt w' (hdl.below hw) hok).mono (fun e w'' h => SmPost.congr (fun j _ => hml u j) h)
        have hm3 := fun u w' (hw : Below W7.heap.size W7 w') => members22_any 0 d' v' u (lt + 1) w' (hdl.below hw) hok
        have hin := fun w' (hw : Below W7.heap.size W7 w') => in26_any 0 d' v' p g (lt + 1) w' (hdl.below hw) hok
        have hcast : ((lt + 1 : Nat) : Int) = (lt : Int) + 1 := rfl
        simp only [hnew] at hin
        simp only [hga, hkl, hcast] at hm2 hm3 hin
        simp only [gd] at hm1
        have l70 : Q < W7.heap.size := row_lt HQ70.out
        have hgc : ∀ w', Below W7.heap.size W7 w' → w'.cell? ⟨Q, 0, none⟩ = some (.slice v.A1 d.k.length v.c1) ∧ w'.cell? ⟨Q, 1, none⟩ = some (.slice v.A2 d.e.length v.c2) ∧ w'.cell? ⟨P, 0, none⟩ = some (.slice v.A1 d.k.length v.c1) ∧ w'.cell? ⟨P, 1, none⟩ = some (.slice A2' (d.e.length + 1) c2') := fun w' hw => by
          obtain ⟨a1, a2⟩ := gdCells ((hw.block _ l70).trans HQ70.out)
          obtain ⟨a3, a4⟩ := HGC7.out w' hw
          exact ⟨a1, a2, a3, a4⟩
        have HM1 := Lib.hid hm1
        have HM2 := Lib.hid hm2
        have HM3 := Lib.hid hm3
        have HIN := Lib.hid hin
        have HMM := Lib.hid hmm
        have HGC := Lib.hid hgc
        have hw1 : IntKind.i64.wrap ((lt : Int) + 1) = (lt : Int) + 1 := IntWalk.i64_in _ (by omega)
        clear hml hmm hnew hkl hga hdl hok hm1 hm2 hm3 hin hcast hgc HDL7 HQ7 HOK7 HGA HGC7 HQ70 HD70
        go_loopw [73] (fun ii wr => ∃ k : Nat, k ≤ n1 ∧ ii = .int .i64 k ∧ Below W7.heap.size W7 wr) (fun ii _ => n1 - (intOf ii).toNat)
        case atStart => exact ⟨0, by omega, rfl, Below.refl _ _⟩
        case round =>
          obtain ⟨k, hk, rfl, hbl⟩ := hrel
          have HBK := Lib.hid hbl
          by_cases hlk : k < n1
          · obtain ⟨b', off', e9, -, -, y0⟩ := (HRG.out.below hbl).int hlk
            cases e9
            have i0 : (0 : Int) ≤ (k : Int) := by omega
            have i1 : (k : Int) < (n1 : Int) := by omega
            generalize L1.getD k 0 = u at *
            have hm1 := HM1.out u
            have hm2 := HM2.out u
            have hm3 := HM3.out u
            have hhi : ∀ j, j < cnt (memB d lt u) d.k.length → anyB (fun k => (idx (memB d' (lt + 1) u) d.k.length).getD k 0 == (idx (memB d lt u) d.k.length).getD j 0) (cnt (memB d' (lt + 1) u) d.k.length) = true := fun j hj => by
              obtain ⟨h1, h2⟩ := at_idx hj
              rw [has_idx _ _ _ h1]
              exact HMM.out u _ h2
            have hc1 := cnt_le (memB d lt u) d.k.length
            have hc3 := cnt_le (memB d' (lt + 1) u) d.k.length
            unfold SmPost at hm1 hm2 hm3
            generalize cnt (memB d lt u) d.k.length = nm at *
            generalize idx (memB d lt u) d.k.length = LM at *
            generalize cnt (memB d' (lt + 1) u) d.k.length = n3 at *
            generalize idx (memB d' (lt + 1) u) d.k.length = L3 at *
            have M1 := Lib.hid hm1
            have M2 := Lib.hid hm2
            have M3 := Lib.hid hm3
            have HHI := Lib.hid hhi
            have hkp : ∀ w', Below wr.heap.size wr w' → (w'.cell? ⟨Q, 0, none⟩ = some (.slice v.A1 d.k.length v.c1) ∧ w'.cell? ⟨Q, 1, none⟩ = some (.slice v.A2 d.e.length v.c2) ∧ w'.cell? ⟨P, 0, none⟩ = some (.slice v.A1 d.k.length v.c1) ∧ w'.cell? ⟨P, 1, none⟩ = some (.slice A2' (d.e.length + 1) c2') ∧ Below wr.heap.size wr w') := fun w' hw => by
              obtain ⟨a1, a2, a3, a4⟩ := HGC.out w' (HBK.out.trans (hw.mono HBK.out.size))
              exact ⟨a1, a2, a3, a4, hw⟩
            have HKP := Lib.hid hkp
            have hto : ∀ w', Below wr.heap.size wr w' → Below W7.heap.size W7 w' := fun w' hw => HBK.out.trans (hw.mono HBK.out.size)
            have HTO := Lib.hid hto
            have hbr : Below wr.heap.size wr wr := Below.refl _ _
            have hbd : Below wr.heap.size wr wr.drew := hbr.drew
            clear hm1 hm2 hm3 hhi hkp hto hbl
            go_wp2_with fail
            clear y0
            go_region_held3 (fun w' => w'.cell? ⟨Q, 0, none⟩ = some (.slice v.A1 d.k.length v.c1) ∧ w'.cell? ⟨Q, 1, none⟩ = some (.slice v.A2 d.e.length v.c2) ∧ w'.cell? ⟨P, 0, none⟩ = some (.slice v.A1 d.k.length v.c1) ∧ w'.cell? ⟨P, 1, none⟩ = some (.slice A2' (d.e.length + 1) c2') ∧ Below wr.heap.size wr w')
              (first | (with_reducible assumption) | (with_reducible exact HKP.out _ hbr) | (with_reducible exact HKP.out _ hbd) | (with_reducible exact HKP.out _ ba) | (with_reducible exact HKP.out _ bb) | (with_reducible exact HKP.out _ bi))
              (first
                | (go_at_call 22; (with_reducible refine (M1.out _ (HTO.out _ ?_)).mono ?_); (go_split_ands; with_reducible assumption); rintro e wa ⟨X1, x1, rfl, hown1, hba⟩; go_split_ands; have ba : Below wr.heap.size wr wa := Below.trans (by with_reducible assumption) (hba.mono (Below.size (by with_reducible assumption))); have R1 := Lib.hid ((row_of_own hown1).base (Nat.zero_le _)); clear hba hown1)
                | (go_at_call 22; (with_reducible refine (M2.out _ (HTO.out _ ?_)).mono ?_); (go_split_ands; with_reducible assumption); rintro e wb ⟨X2, x2, rfl, hown2, hbb⟩; go_split_ands; have bb : Below wr.heap.size wr wb := Below.trans (by with_reducible assumption) (hbb.mono (Below.size (by with_reducible assumption))); have R2 := Lib.hid ((row_of_own hown2).base (Nat.zero_le _)); have R1b := Lib.hid (R1.out.below hbb); clear hbb hown2)
                | (go_at_call 17; (refine (ints_same X1 X2 nm x1 x2 LM _ R1b.out R2.out (by omega)).mono ?_); rintro e wi ⟨rfl, hbi⟩; go_split_ands; have bi : Below wr.heap.size wr wi := Below.trans (by with_reducible assumption) (hbi.mono (Below.size (by with_reducible assumption))); clear hbi))
            have BI := Lib.hid (HBK.out.trans (bi.mono HBK.out.size))
            obtain ⟨k0, k1, k2, k3⟩ := HGC.out _ BI.out
            go_split_ands
            clear bi bb ba hbr hbd HKP HTO R1 R2 R1b M2
            go_wp2_with fail
            refine (M3.out _ BI.out).mono ?_
            rintro e wn3 ⟨X3, x3, rfl, hown3, hb3⟩
            have R3 := Lib.hid ((row_of_own hown3).base (Nat.zero_le _))
            have BN3 := Lib.hid (BI.out.trans (hb3.mono BI.out.size))
            obtain ⟨q0, q1, q2, q3⟩ := HGC.out _ BN3.out
            clear hown3 hb3 k0 k1 k2 k3
            go_wp2_with fail
            refine (M1.out _ BN3.out).mono ?_
            rintro e w4 ⟨X4, x4, rfl, hown4, hb4⟩
            have R4 := Lib.hid ((row_of_own hown4).base (Nat.zero_le _))
            have R34 := Lib.hid (R3.out.below hb4)
            have B4 := Lib.hid (BN3.out.trans (hb4.mono BN3.out.size))
            clear hown4 hb4 q0 q1 q2 q3
            go_wp2_with fail
            go_loopw [97] (fun ii wr => ∃ j : Nat, j ≤ nm ∧ ii = .int .i64 j ∧ w4 = wr) (fun ii _ => nm - (intOf ii).toNat)
            case atStart => exact ⟨0, by omega, rfl, rfl⟩
            case round =>
              obtain ⟨j, hj, rfl, rfl⟩ := hrel
              by_cases hlj : j < nm
              · obtain ⟨b4, o4, hX4, -, -, y0⟩ := R4.out.int hlj
                subst hX4
                have hHS := has_any L3 (LM.getD j 0) X3 n3 x3 w4 R34.out (by omega)
                rw [HHI.out j hlj] at hHS
                generalize LM.getD j 0 = y at *
                have HHS := Lib.hid hHS
                have i0 : (0 : Int) ≤ (j : Int) := by omega
                have i1 : (j : Int) < (nm : Int) := by omega
                clear hHS
                go_wp2_with (go_at_call 34; (with_reducible refine HHS.out.mono ?_); rintro e w5 ⟨rfl, rfl⟩)
                exact ⟨⟨j + 1, by omega, by go_num, by first | rfl | trivial⟩, by simp [intOf]; omega⟩
              · obtain rfl : nm = j := by omega
                go_wp2_with fail
                exact ⟨⟨k + 1, by omega, by go_num, B4.out⟩, by simp [intOf]; omega⟩
          · obtain rfl : n1 = k := by omega
            obtain ⟨k0, k1, k2, k3⟩ := HGC.out _ hbl
            have HI := Lib.hid (HIN.out _ hbl)
            clear hbl
            go_wp2_with (first
              | (go_at_call 26; (with_reducible refine HI.out.mono ?_); rintro e w10 ⟨rfl, hb10⟩; have B10 := Lib.hid (HBK.out.trans (hb10.mono HBK.out.size)); clear hb10)
              | (go_at_call 10; refine (awake_any _).mono ?_; rintro e w11 ⟨rfl, hb11⟩; have B11 := Lib.hid (HB7.out.trans ((B10.out.trans (hb11.mono B10.out.size)).mono HB7.out.size)); clear hb11))
            go_ret
            exact ⟨by first | rfl | simp, B11.out⟩

/-! ### THE ROW's STEP: WRITTEN OUT: LEAVE IT -/
set_option maxRecDepth 100000 in
theorem lifted (os : Os) (started : os.Started) (H : Type) (enc : TypeId × Value → H) :
    ReturnsInHanded {} Try.checked os 6 .any (Rows.directoryLaterSpec.pre6 enc Try.prog Try.f6 Rows.directoryLaterRow.domain false) (Rows.directoryLaterSpec.post enc Try.prog Try.f6 false true false false) := by
  refine returnsInHanded_of_change (C := Try.checked) own started (by kernel_rfl) Try.func6
    (ChangeSpec.witness6 (enc := enc) (C := Try.checked) false ⟨#[], #[.slice none 0 0], []⟩ 8 (by kernel_rfl) (by kernel_rfl) (by kernel_rfl) (by kernel_rfl)) ?_
  intro W base args ds gs before hval0 hW hcnd _
  have hval : ∀ (j : Nat) t v, Try.f6.params[j]? = some t → args[j]? = some v → Value.okWide Try.prog W .any base t v := hval0
  have hW' := hW
  obtain ⟨p, q, hA0, hV, rfl, hfz, hnd⟩ := hW
  have hA : DataW.TrodAll enc Try.prog W 0 (fun _ => true) true Try.f6.params.toList args.toList ds p := hA0
  rw [Try.params6] at hA hval
  obtain ⟨v0, vs0, d0, ds0, p0, q0, hargs, rfl, rfl, h0, r0⟩ := trodAll_cons hA
  obtain ⟨rfl, rfl, rfl⟩ := trodAll_nil r0
  obtain rfl : args = #[v0] := by cases args; simp_all
  obtain ⟨rfl, rfl⟩ := trodVars_none hV
  obtain ⟨a0, len0, cap0, rfl⟩ := okWide_slice Try.underlying22 (hval 0 22 v0 rfl rfl)
  have k0 := h0
  have lt0 : ∀ x ∈ p0, x.block < W.heap.size := by obtain ⟨m, hm⟩ := k0; exact DataW.trod_lt m _ _ _ hm
  obtain ⟨z0, w0⟩ : ∃ zs, IsRow .i64 W a0 len0 cap0 zs := by
    obtain ⟨fuel, hf⟩ := h0
    rcases open_ints Try.underlying22 Try.underlying3 (by kernel_rfl) hf with ⟨hcs, _⟩ | ⟨x, l, c, zs, hcs, _, hl, hm, hz, _, hcell, hwz⟩
    · simp [Value.cells] at hcs
      obtain ⟨rfl, rfl, rfl⟩ := hcs
      exact ⟨[], .inl ⟨rfl, rfl, rfl, rfl⟩⟩
    · simp [Value.cells] at hcs
      obtain ⟨rfl, rfl, rfl⟩ := hcs
      exact ⟨zs, .inr ⟨_, rfl, hl, hm, by simpa using hz, hcell, hwz⟩⟩
  clear hA0 hval0
  refine (walk a0 len0 cap0 z0 W w0).mono fun e W' ⟨he, bel⟩ => ?_
  subst he
  exact ⟨_, rfl, _, _, _, [], _, [], hW', trodAll_mk1 (shut_bool Try.underlying4 _), (trodAll_cons_mk (Below.trod laidOut (by kernel_rfl) (of_decide_eq_true (by kernel_rfl)) k0 bel lt0) trodAll_mk0), rfl, bel.frame _, fun h => by cases h⟩

theorem over : Rows.directoryLaterRow.holds Try.pinned (OpenSpec.ofChange Rows.directoryLaterSpec) :=
  OpenClaim.holds_of_wide 6 Try.f6 rfl rfl rfl rfl rfl rfl rfl ⟨rfl, rfl, rfl, rfl, rfl⟩ rfl rfl rfl rfl rfl (by kernel_rfl) Try.func6 (by kernel_rfl)
    (of_decide_eq_true (by kernel_rfl)) (by unfold Func.isWrapper; first | (rw [if_pos (by decide +kernel)]; kernel_rfl) | (rw [if_neg (by decide +kernel)]; exact ⟨rfl, rfl⟩))
    (fun os started H enc _ => lifted os started H enc)

/-- ████ THE STATEMENT ████ -/
theorem proved : Rows.DirectoryLaterSaid := over
#print axioms proved
end Go.Proofs.Ytdhofngildjifaa.directoryLater
