/-
  The Go function leakresponse/leakresponselaw27.AccessQuiet returns true for every list of numbers, and leaves what was there as it was; no conditions. Between two times of events grants stay as they are, and no link begins.
-/
import Derived.Test.YtfdmneceecaocaaAcI
import Derived.Test.YtfdmneceecaocaaAcJ
import Derived.Test.YtfdmneceecaocaaDjF
import Derived.Test.YtfdmneceecaocaaRows
import Derived.WalkKit
import Derived.ProofKit
import Derived.OpenShut
import Derived.ShutString
import Derived.ChangeOld
import Derived.Below
import Derived.StillTailTactics
import Derived.Deep.CutBlock
namespace Go.Proofs.Ytfdmneceecaocaa.accessQuiet
open Go.ChangeShapes Go.WideShapes Go.ChangeAt Go.RowKit
open Go.ChangeMaps (open_string shut_string)
open Go.Proofs.Ytfdmneceecaocaa.Tp
open Go.Proofs.Ytfdmneceecaocaa.Di
set_option linter.unusedVariables false

set_option maxRecDepth 100000 in
set_option maxHeartbeats 8000000 in
theorem walk (a0 : Option Addr) (len0 cap0 : Nat) (z0 : List Int) (w : World) (w0 : IsRow .i64 w a0 len0 cap0 z0) :
    Calls Try.prog 5 #[.slice a0 len0 cap0] w fun e w' => e = .returned (.bool true) ∧ Below w.heap.size w w' := by
  have hm := w0.at_.1
  unfold maxLen at hm
  have HTP := Lib.hid (tape_new w0)
  have HBX := Lib.hid (box_below w (.cells #[.slice a0 len0 cap0, .int .i64 0] 29))
  clear w0
  by_cases hlen : 300 < len0
  · have hl0 : (300 : Int) < (len0 : Int) := by omega
    go_enter Try.func5, Try.ntmps5
    go_wp2_with (go_at_call 14; refine (awake_any _).mono ?_; rintro e w1 ⟨rfl, hb1⟩; have HB1 := Lib.hid hb1; clear hb1)
    go_ret
    exact ⟨rfl, HB1.out⟩
  · have hl0 : (len0 : Int) ≤ (300 : Int) := by omega
    go_enter Try.func5, Try.ntmps5
    go_wp2_with fail
    refine (directory_any w.heap.size _ HTP.out (by simp)).mono ?_
    rintro e w1 ⟨d, v, rfl, hmk, hrl, hg1, ht1⟩
    have hb1 : Below w.heap.size w w1 := HBX.out.grown hg1 HBX.out.size (fun k e => by cases e; exact Nat.le_refl _)
    have hs1 := hg1.size
    simp at hs1
    have HB1 := Lib.hid hb1
    have HT1 := Lib.hid ht1
    have hn1 := hmk.n1
    have hn7 := hmk.n7
    clear hrl hg1 ht1 hb1 hmk
    go_wp2_with fail
    refine (estate_any w.heap.size d v w1 HT1.out (by omega) hn1 hn7).mono ?_
    rintro e w2 ⟨a, ⟨A, vc⟩, rfl, hme, hel, hg2, ht2⟩
    have hb2 : Below w.heap.size w w2 := HB1.out.grown hg2 HB1.out.size (fun k e => by cases e; exact Nat.le_refl _)
    have hs2 : w.heap.size + 1 ≤ w2.heap.size := by have := hg2.size; omega
    have HQ := Lib.hid (heap_alloc_new w2 (.cells (ge a ⟨A, vc⟩) 25))
    have HEL := Lib.hid (Row.below (hel.base (show w.heap.size + 1 ≤ _ by omega)) (box_below w2 (.cells (ge a ⟨A, vc⟩) 25)))
    have HB2 := Lib.hid (hb2.trans ((box_below w2 (.cells (ge a ⟨A, vc⟩) 25)).mono hb2.size))
    have HT2 := Lib.hid (tape_new2 ht2 (.cells (ge a ⟨A, vc⟩) 25))
    have HME := Lib.hid hme
    have ha1 := hme.ok.n1
    have ha4 := hme.n4
    have ha15 := hme.m15
    clear hel hg2 ht2 hb2 hme HB1 HT1 HBX HTP
    obtain ⟨g0, g1⟩ := geCells HQ.out
    go_wp2_with (with_reducible (show wpList _ _ _ (⟨none, .store 25 (.tmp 4) (.tmp 22), _, _, _, _⟩ :: _) _ _); refine wpList_store_row (o := ⟨none, .store 25 (.tmp 4) (.tmp 22), _, _, _, _⟩) rfl 25 (.tmp 4) (.tmp 22) rfl w2.heap.size (ge a ⟨A, vc⟩) rfl rfl 25 zE (heap_alloc_new _ _) (infoEs _ _) rfl (ge_one _ _) ?_; rw [new_set])
    have lQ : w2.heap.size < (w2.alloc (.cells (ge a ⟨A, vc⟩) 25)).heap.size := row_lt HQ.out
    generalize w2.alloc (.cells (ge a ⟨A, vc⟩) 25) = W1 at *
    generalize w2.heap.size = Q at *
    have HTI := Lib.hid (times_any a ⟨A, vc⟩ W1 (Row.base (B' := 0) HEL.out (Nat.zero_le _)))
    have HF := Lib.hid (show (#[.int .i64 a.n, .slice A a.e.length vc] : Array Value) = ge a ⟨A, vc⟩ from rfl)
    go_wp2_with (go_at_call 21; rw [HF.out]; refine HTI.out.mono ?_; rintro e w3 ⟨At, ct, rfl, hown3, hb3⟩; have HB3 := Lib.hid (HB2.out.trans (hb3.mono HB2.out.size)); have HQ3 := Lib.hid ((hb3.block _ lQ).trans HQ.out); have HE3 := Lib.hid (Row.base (B' := 0) (Row.below HEL.out hb3) (Nat.zero_le _)); have HR3 := Lib.hid ((row_of_own hown3).base (Nat.zero_le _)); clear hown3 hb3 g0 g1)
    have hnt := tms_len a
    have HMT := Lib.hid (fun r : Nat => mem_tms HME.out.ok r)
    have HOK1 := Lib.hid HME.out.ok
    clear HQ HEL HB2 HT2 HTI
    generalize hTL : tms a = TL at *
    clear hTL
    generalize hnT : TL.length = nt at *
    have HNT := Lib.hid hnT
    clear hnT
    go_loopw [6] (fun tt wr => ∃ t : Nat, 1 ≤ t ∧ t ≤ 40 ∧ tt = .int .i64 (t : Int) ∧ Below w3.heap.size w3 wr) (fun tt _ => 40 - (intOf tt).toNat)
    case atStart => exact ⟨1, by omega, by omega, rfl, Below.refl _ _⟩
    case round =>
      obtain ⟨t, ht1, ht2, rfl, hbl⟩ := hrel
      rename World => wo
      have HBO := Lib.hid hbl
      clear hbl
      by_cases hlt : t < 40
      · have dt : decide ((t : Int) < 40) = true := decide_eq_true (by omega)
        have HHA := Lib.hid (fun w' (hw : Below w3.heap.size w3 w') => has_any TL t At nt ct w' (HR3.out.below hw) (by omega))
        have hw1 : IntKind.i64.wrap ((t : Int) - 1) = (t : Int) - 1 := IntWalk.i64_in _ (by omega)
        cases hmem : anyB (fun j => TL.getD j 0 == t) nt with
        | true =>
          have HH := Lib.hid (HHA.out _ HBO.out)
          rw [hmem] at HH
          clear hmem
          go_wp2_with (go_at_call 31; (with_reducible refine HH.out.mono ?_); rintro e w4 ⟨rfl, rfl⟩)
          exact ⟨⟨t + 1, by omega, by omega, by go_num, HBO.out⟩, by simp [intOf]; omega⟩
        | false =>
          have HH := Lib.hid (HHA.out _ HBO.out)
          rw [hmem] at HH
          have hnt2 : ∀ j, j < a.e.length → (ag a.e j).t ≠ (t : Int) := fun j hj e => by
            have hin := (HMT.out t).2 ⟨j, hj, e⟩
            obtain ⟨i, hi, he⟩ := List.getElem_of_mem hin
            have := no_any hmem i (by have := HNT.out; omega)
            rw [List.getD_eq_getElem?_getD, List.getElem?_eq_getElem hi] at this
            rw [beq_eq_false_iff_ne] at this
            exact this he
          have HQK := Lib.hid (fun p : Int => lk_quiet a.e p (t : Int) a.e.length hnt2)
          have HQG := Lib.hid (fun p r : Int => gr_quiet a.e p (t : Int) r a.e.length hnt2)
          clear hmem hnt2
          go_wp2_with (go_at_call 31; (with_reducible refine HH.out.mono ?_); rintro e w4 ⟨rfl, rfl⟩)
          go_loopw [7] (fun pp wr => ∃ p : Nat, (p : Int) ≤ a.n ∧ pp = .int .i64 (p : Int) ∧ Below w3.heap.size w3 wr) (fun pp _ => (a.n - intOf pp).toNat)
          case atStart => exact ⟨0, by omega, rfl, HBO.out⟩
          case round =>
            obtain ⟨p, hp, rfl, hbl⟩ := hrel
            rename World => wv
            have HBV := Lib.hid hbl
            have hgq : ∀ w', Below wv.heap.size wv w' → (w'.cell? ⟨Q, 0, none⟩ = some (.int .i64 a.n) ∧ w'.cell? ⟨Q, 1, none⟩ = some (.slice A a.e.length vc) ∧ Below wv.heap.size wv w') := fun w' hw =>
              have hww := hbl.trans (hw.mono hbl.size)
              ⟨(geCells ((hww.block _ (row_lt HQ3.out)).trans HQ3.out)).1, (geCells ((hww.block _ (row_lt HQ3.out)).trans HQ3.out)).2, hw⟩
            have HKP := Lib.hid hgq
            obtain ⟨q0, q1, -⟩ := hgq wv (Below.refl _ _)
            by_cases hlp : (p : Int) < a.n
            · have d9 : decide ((p : Int) < a.n) = true := decide_eq_true hlp
              have hpn : (p : Int) < a.n := hlp
              have he1 : exP a p := ⟨HOK1.out, by omega, hlp⟩
              have hla := fun w' (hw : Below wv.heap.size wv w') => linked_yes a ⟨A, vc⟩ p ((t : Int) - 1) w' (Row.below HE3.out (hbl.trans (hw.mono hbl.size))) he1
              have hlc := fun w' (hw : Below wv.heap.size wv w') => linked_yes a ⟨A, vc⟩ p t w' (Row.below HE3.out (hbl.trans (hw.mono hbl.size))) he1
              have hga := fun w' (hw : Below wv.heap.size wv w') => granted_any a ⟨A, vc⟩ p ((t : Int) - 1) w' (Row.below HE3.out (hbl.trans (hw.mono hbl.size)))
              have hgc := fun w' (hw : Below wv.heap.size wv w') => granted_any a ⟨A, vc⟩ p t w' (Row.below HE3.out (hbl.trans (hw.mono hbl.size)))
              have hsame : gdB a p ((t : Int) - 1) = gdB a p t := funext fun r => by rw [gdB_yes he1, gdB_yes he1]; unfold grA; rw [HQG.out]
              have himp : (lkA a.e p t).isSome = true → (lkA a.e p ((t : Int) - 1)).isSome = true := HQK.out p
              rw [hsame] at hga
              simp only [ge] at hla hlc hga hgc
              clear hsame he1 hlp hbl
              generalize gdB a p t = q at *
              have hnm := cnt_le q 24
              unfold SmPost at hga hgc
              generalize cnt q 24 = nm at *
              generalize idx q 24 = LM at *
              generalize on (lkA a.e p t) = I2 at *
              generalize on (lkA a.e p ((t : Int) - 1)) = I1 at *
              have hand : ((lkA a.e p t).isSome && !(lkA a.e p ((t : Int) - 1)).isSome) = false := by
                cases h : (lkA a.e p t).isSome with
                | false => rfl
                | true => rw [himp h]; rfl
              generalize (lkA a.e p t).isSome = B2 at *
              generalize (lkA a.e p ((t : Int) - 1)).isSome = B1 at *
              have HLA := Lib.hid hla
              have HLC := Lib.hid hlc
              have HGA := Lib.hid hga
              have HGC := Lib.hid hgc
              clear hla hlc hga hgc hgq himp
              cases B2 with
              | false =>
                clear hand
                go_wp2_with (first
                  | (go_at_call 27; (with_reducible refine (HLA.out _ (Below.refl _ _)).mono ?_); rintro e w8 ⟨rfl, hb8⟩; have B8 := Lib.hid hb8; clear q0 q1; obtain ⟨q0, q1, -⟩ := HKP.out w8 hb8; clear hb8)
                  | (go_at_call 27; (with_reducible refine (HLC.out _ B8.out).mono ?_); rintro e w9 ⟨rfl, hb9⟩; have B9 := Lib.hid (B8.out.trans (hb9.mono B8.out.size)); clear q0 q1; obtain ⟨q0, q1, -⟩ := HKP.out w9 B9.out; clear hb9))
                have bd9 : Below wv.heap.size wv w9 := B9.out
                have bd0 : Below wv.heap.size wv w9.drew := B9.out.drew
                first | go_region_with (first
                    | (go_at_call 29; (with_reducible refine (HGA.out _ ?_).mono ?_); (first | exact BB.out | exact BB.out.drew | exact bd9 | exact bd0); rintro e wa ⟨X1, x1, rfl, hown1, hba⟩; have BA := Lib.hid (show Below wv.heap.size wv wa from Below.trans (by first | exact BB.out | exact BB.out.drew | exact bd9 | exact bd0) (hba.mono (by first | exact BB.out.size | exact bd9.size))); have R1 := Lib.hid ((row_of_own hown1).base (Nat.zero_le _)); (first | (have R2b := Lib.hid (R2.out.below hba)) | skip); obtain ⟨u0, u1, -⟩ := HKP.out wa BA.out; clear hba hown1)
                    | (go_at_call 29; (with_reducible refine (HGC.out _ ?_).mono ?_); (first | exact BA.out | exact BA.out.drew | exact bd9 | exact bd0); rintro e wb ⟨X2, x2, rfl, hown2, hbb⟩; have BB := Lib.hid (show Below wv.heap.size wv wb from Below.trans (by first | exact BA.out | exact BA.out.drew | exact bd9 | exact bd0) (hbb.mono (by first | exact BA.out.size | exact bd9.size))); have R2 := Lib.hid ((row_of_own hown2).base (Nat.zero_le _)); (first | (have R1b := Lib.hid (R1.out.below hbb)) | skip); obtain ⟨u0, u1, -⟩ := HKP.out wb BB.out; clear hbb hown2)
                    | (go_at_call 20; (refine (ints_same X1 X2 nm x1 x2 LM _ ?_ ?_ (by omega)).mono ?_); (first | exact R1b.out | exact R1.out | exact R1b.out.drew | exact R1.out.drew); (first | exact R2b.out | exact R2.out | exact R2b.out.drew | exact R2.out.drew); rintro e wi ⟨rfl, hbi⟩; have BI := Lib.hid (HBV.out.trans ((show Below wv.heap.size wv wi from (by first | exact BB.out.trans (hbi.mono BB.out.size) | exact BB.out.drew.trans (hbi.mono BB.out.size) | exact BA.out.trans (hbi.mono BA.out.size) | exact BA.out.drew.trans (hbi.mono BA.out.size))).mono HBV.out.size)); clear hbi)) | fail "with"
                all_goals
                  go_wp2_with fail
                  exact ⟨⟨p + 1, by omega, by go_num, BI.out⟩, by simp [intOf]; omega⟩
              | true =>
                have hB1 : B1 = true := by simpa using hand
                subst hB1
                clear hand
                go_wp2_with (first
                  | (go_at_call 27; (with_reducible refine (HLA.out _ (Below.refl _ _)).mono ?_); rintro e w8 ⟨rfl, hb8⟩; have B8 := Lib.hid hb8; clear q0 q1; obtain ⟨q0, q1, -⟩ := HKP.out w8 hb8; clear hb8)
                  | (go_at_call 27; (with_reducible refine (HLC.out _ B8.out).mono ?_); rintro e w9 ⟨rfl, hb9⟩; have B9 := Lib.hid (B8.out.trans (hb9.mono B8.out.size)); clear q0 q1; obtain ⟨q0, q1, -⟩ := HKP.out w9 B9.out; clear hb9))
                have bd9 : Below wv.heap.size wv w9 := B9.out
                have bd0 : Below wv.heap.size wv w9.drew := B9.out.drew
                first | go_region_held3 (fun w' => w'.cell? ⟨Q, 0, none⟩ = some (.int .i64 a.n) ∧ w'.cell? ⟨Q, 1, none⟩ = some (.slice A a.e.length vc) ∧ Below wv.heap.size wv w')
                  (first | (with_reducible assumption) | (with_reducible exact HKP.out _ bd9) | (with_reducible exact HKP.out _ bd0) | (with_reducible exact HKP.out _ ba) | (with_reducible exact HKP.out _ bb) | (with_reducible exact HKP.out _ bi))
                  (first
                    | (go_at_call 29; (with_reducible refine (HGA.out _ ?_).mono ?_); (go_split_ands; with_reducible assumption); rintro e wa ⟨X1, x1, rfl, hown1, hba⟩; go_split_ands; have ba : Below wv.heap.size wv wa := Below.trans (by with_reducible assumption) (hba.mono (Below.size (by with_reducible assumption))); have R1 := Lib.hid ((row_of_own hown1).base (Nat.zero_le _)); clear hba hown1)
                    | (go_at_call 29; (with_reducible refine (HGC.out _ ?_).mono ?_); (go_split_ands; with_reducible assumption); rintro e wb ⟨X2, x2, rfl, hown2, hbb⟩; go_split_ands; have bb : Below wv.heap.size wv wb := Below.trans (by with_reducible assumption) (hbb.mono (Below.size (by with_reducible assumption))); have R2 := Lib.hid ((row_of_own hown2).base (Nat.zero_le _)); have R1b := Lib.hid (R1.out.below hbb); clear hbb hown2)
                    | (go_at_call 20; (refine (ints_same X1 X2 nm x1 x2 LM _ R1b.out R2.out (by omega)).mono ?_); rintro e wi ⟨rfl, hbi⟩; go_split_ands; have bi : Below wv.heap.size wv wi := Below.trans (by with_reducible assumption) (hbi.mono (Below.size (by with_reducible assumption))); clear hbi)) | fail "held"
                go_split_ands
                have BI := Lib.hid (HBV.out.trans (bi.mono HBV.out.size))
                clear bi bb ba bd9 bd0
                go_wp2_with fail
                exact ⟨⟨p + 1, by omega, by go_num, BI.out⟩, by simp [intOf]; omega⟩
            · have d9 : decide ((p : Int) < a.n) = false := decide_eq_false hlp
              clear hlp hbl hgq
              go_wp2_with fail
              exact ⟨⟨t + 1, by omega, by omega, by go_num, HBV.out⟩, by simp [intOf]; omega⟩
      · have dt : decide ((t : Int) < 40) = false := decide_eq_false (by omega)
        go_wp2_with (go_at_call 14; refine (awake_any _).mono ?_; rintro e w9 ⟨rfl, hb9⟩; have HB9 := Lib.hid (HB3.out.trans ((HBO.out.trans (hb9.mono HBO.out.size)).mono HB3.out.size)); clear hb9)
        go_ret
        exact ⟨by first | rfl | simp, HB9.out⟩

/-! ### THE ROW's STEP: WRITTEN OUT: LEAVE IT -/
set_option maxRecDepth 100000 in
theorem lifted (os : Os) (started : os.Started) (H : Type) (enc : TypeId × Value → H) :
    ReturnsInHanded {} Try.checked os 5 .any (Rows.accessQuietSpec.pre6 enc Try.prog Try.f5 Rows.accessQuietRow.domain false) (Rows.accessQuietSpec.post enc Try.prog Try.f5 false true false false) := by
  refine returnsInHanded_of_change (C := Try.checked) own started (by kernel_rfl) Try.func5
    (ChangeSpec.witness6 (enc := enc) (C := Try.checked) false ⟨#[], #[.slice none 0 0], []⟩ 8 (by kernel_rfl) (by kernel_rfl) (by kernel_rfl) (by kernel_rfl)) ?_
  intro W base args ds gs before hval0 hW hcnd _
  have hval : ∀ (j : Nat) t v, Try.f5.params[j]? = some t → args[j]? = some v → Value.okWide Try.prog W .any base t v := hval0
  have hW' := hW
  obtain ⟨p, q, hA0, hV, rfl, hfz, hnd⟩ := hW
  have hA : DataW.TrodAll enc Try.prog W 0 (fun _ => true) true Try.f5.params.toList args.toList ds p := hA0
  rw [Try.params5] at hA hval
  obtain ⟨v0, vs0, d0, ds0, p0, q0, hargs, rfl, rfl, h0, r0⟩ := trodAll_cons hA
  obtain ⟨rfl, rfl, rfl⟩ := trodAll_nil r0
  obtain rfl : args = #[v0] := by cases args; simp_all
  obtain ⟨rfl, rfl⟩ := trodVars_none hV
  obtain ⟨a0, len0, cap0, rfl⟩ := okWide_slice Try.underlying22 (hval 0 22 v0 rfl rfl)
  have k0 := h0
  have lt0 : ∀ x ∈ p0, x.block < W.heap.size := by obtain ⟨m, hm⟩ := k0; exact DataW.trod_lt m _ _ _ hm
  obtain ⟨z0, w0⟩ : ∃ zs, IsRow .i64 W a0 len0 cap0 zs := by
    obtain ⟨fuel, hf⟩ := h0
    rcases open_ints Try.underlying22 Try.underlying3 (by kernel_rfl) hf with ⟨hcs, _⟩ | ⟨x, l, c, zs, hcs, _, hl, hm, hz, _, hcell, hwz⟩
    · simp [Value.cells] at hcs
      obtain ⟨rfl, rfl, rfl⟩ := hcs
      exact ⟨[], .inl ⟨rfl, rfl, rfl, rfl⟩⟩
    · simp [Value.cells] at hcs
      obtain ⟨rfl, rfl, rfl⟩ := hcs
      exact ⟨zs, .inr ⟨_, rfl, hl, hm, by simpa using hz, hcell, hwz⟩⟩
  clear hA0 hval0
  refine (walk a0 len0 cap0 z0 W w0).mono fun e W' ⟨he, bel⟩ => ?_
  subst he
  exact ⟨_, rfl, _, _, _, [], _, [], hW', trodAll_mk1 (shut_bool Try.underlying4 _), (trodAll_cons_mk (Below.trod laidOut (by kernel_rfl) (of_decide_eq_true (by kernel_rfl)) k0 bel lt0) trodAll_mk0), rfl, bel.frame _, fun h => by cases h⟩

theorem over : Rows.accessQuietRow.holds Try.pinned (OpenSpec.ofChange Rows.accessQuietSpec) :=
  OpenClaim.holds_of_wide 5 Try.f5 rfl rfl rfl rfl rfl rfl rfl ⟨rfl, rfl, rfl, rfl, rfl⟩ rfl rfl rfl rfl rfl (by kernel_rfl) Try.func5 (by kernel_rfl)
    (of_decide_eq_true (by kernel_rfl)) (by unfold Func.isWrapper; first | (rw [if_pos (by decide +kernel)]; kernel_rfl) | (rw [if_neg (by decide +kernel)]; exact ⟨rfl, rfl⟩))
    (fun os started H enc _ => lifted os started H enc)

/-- ████ THE STATEMENT ████ -/
theorem proved : Rows.AccessQuietSaid := over
#print axioms proved
end Go.Proofs.Ytfdmneceecaocaa.accessQuiet
