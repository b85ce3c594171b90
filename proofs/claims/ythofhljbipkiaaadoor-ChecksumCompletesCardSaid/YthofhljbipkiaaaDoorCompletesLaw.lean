/-
  The Go function leakresponselaw03.ChecksumCompletes returns true for every list of numbers, every string and every number, and leaves what was there as it was; no conditions.
-/
import Derived.Test.YthofhljbipkiaaaDoorCkN
import Derived.Test.YthofhljbipkiaaaDoorRows
import Derived.Test.YthofhljbipkiaaaDoorCards
import Derived.Test.YthofhljbipkiaaaDoorTie
import Derived.SevenTiedAt
import Derived.WalkKit
import Derived.ProofKit
import Derived.OpenShut
import Derived.ShutString
import Derived.ChangeOld
import Derived.Below
namespace Go.Proofs.YthofhljbipkiaaaDoor.checksumCompletes
open Go.ChangeShapes Go.WideShapes Go.ChangeAt Go.RowKit
open Go.ChangeMaps (open_string shut_string)
open Go.Proofs.YthofhljbipkiaaaDoor.Tp
open Go.Proofs.YthofhljbipkiaaaDoor.Ck
set_option linter.unusedVariables false

theorem strs_cell {w : World} {g : Nat} {l : List ByteArray} (h : w.heap[g]? = some (.cells (l.map Value.string).toArray 9 (0, 0))) (j : Nat) (hj : j < l.length) : w.cell? ⟨g, j, none⟩ = some (.string (l.getD j ByteArray.empty)) := by
  rw [cell_of_row _ _ _ _ _ _ h]
  simp [hj]

set_option maxRecDepth 100000 in
set_option maxHeartbeats 4000000 in
theorem walk (a0 : Option Addr) (len0 cap0 : Nat) (z0 : List Int) (a1 : ByteArray) (a2 : Int) (w : World) (w0 : IsRow .i64 w a0 len0 cap0 z0) (w1 : a1.size ≤ maxLen) (w2 : (Lit.int .i64 a2).wf = true) :
    Calls Tryd.prog 4 #[.slice a0 len0 cap0, .string a1, .int .i64 a2] w fun e w' => e = .returned (.bool true) ∧ Below w.heap.size w w' := by
  have HTP := Lib.hid (tape_new w0)
  have HBX := Lib.hid (box_below w (.cells #[.slice a0 len0 cap0, .int .i64 0] 25))
  clear w0 w1 w2
  go_enter Tryd.func4, Tryd.ntmps4
  go_wp2_with fail
  refine (next_any w.heap.size 14 _ HTP.out (by omega) (by omega)).mono ?_
  rintro e w1 ⟨x, hx0, hx1, rfl, hg1, ht1⟩
  obtain ⟨n1, rfl⟩ : ∃ m : Nat, x = m := ⟨x.toNat, by omega⟩
  have hs1 := hg1.size
  simp at hs1
  have HB1 := Lib.hid (HBX.out.grown hg1 HBX.out.size (fun k e => by cases e; exact Nat.le_refl _))
  have HT1 := Lib.hid ht1
  clear hg1 ht1
  go_wp2_with fail
  refine (dig_any false w.heap.size n1 _ HT1.out (by omega) (by omega)).mono ?_
  rintro e w2 ⟨bs1, hl1, hd1, rfl, hg2, ht2⟩
  have hs2 := hg2.size
  have HB2 := Lib.hid (HB1.out.grown hg2 HB1.out.size (fun k e => by cases e; exact Nat.le_refl _))
  have HT2 := Lib.hid ht2
  clear hg2 ht2 hl1 hd1
  generalize strB bs1 = s1 at *
  go_wp2_with fail
  refine (next_any w.heap.size 14 _ HT2.out (by omega) (by omega)).mono ?_
  rintro e w3 ⟨x, hy0, hy1, rfl, hg3, ht3⟩
  obtain ⟨n2, rfl⟩ : ∃ m : Nat, x = m := ⟨x.toNat, by omega⟩
  have hs3 := hg3.size
  have HB3 := Lib.hid (HB2.out.grown hg3 HB2.out.size (fun k e => by cases e; exact Nat.le_refl _))
  have HT3 := Lib.hid ht3
  clear hg3 ht3
  go_wp2_with fail
  refine (dig_any true w.heap.size n2 _ HT3.out (by omega) (by omega)).mono ?_
  rintro e w4 ⟨bs2, hl2, hd2, rfl, hg4, ht4⟩
  have hs4 := hg4.size
  have HB4 := Lib.hid (HB3.out.grown hg4 HB3.out.size (fun k e => by cases e; exact Nat.le_refl _))
  have HT4 := Lib.hid ht4
  clear hg4 ht4 hl2 hd2
  generalize strB bs2 = s2 at *
  go_wp2_with fail
  refine (next_any w.heap.size 10 _ HT4.out (by omega) (by omega)).mono ?_
  rintro e w5 ⟨x, hz0, hz1, rfl, hg5, ht5⟩
  obtain ⟨n3, rfl⟩ : ∃ m : Nat, x = m := ⟨x.toNat, by omega⟩
  have hs5 := hg5.size
  have HB5 := Lib.hid (HB4.out.grown hg5 HB4.out.size (fun k e => by cases e; exact Nat.le_refl _))
  have HT5 := Lib.hid ht5
  clear hg5 ht5
  go_wp2_with fail
  refine (bytes_any w.heap.size n3 _ HT5.out (by omega) (by omega)).mono ?_
  rintro e w6 ⟨v, rfl, bs3, hl3, hb3, hrow, hg6, ht6⟩
  have hconv := conv_by (by_own hrow hl3 hb3).1
  have HB6 := Lib.hid (HB5.out.grown hg6 HB5.out.size (fun k e => by cases e; exact Nat.le_refl _))
  clear hg6 ht6 hrow hl3 hb3 HB1 HB2 HB3 HB4 HB5 HT1 HT2 HT3 HT4 HT5 hs1 hs2 hs3 hs4 hs5
  generalize strB bs3 = s3 at *
  have HR := Lib.hid (show ∀ w', Below (w6.heap.size + 1) (w6.alloc (.cells #[.string a1, .string s1, .string s2, .string s3] 9)) w' → ∀ j, j < 4 → w'.cell? ⟨w6.heap.size, j, none⟩ = some (.string ([a1, s1, s2, s3].getD j ByteArray.empty)) from fun w' hw j hj => by
    refine (hw.cell (p := ⟨w6.heap.size, j, none⟩) (by simp)).trans ?_
    exact strs_cell (l := [a1, s1, s2, s3]) (heap_alloc_new _ _) j hj)
  have HBA := Lib.hid (HB6.out.trans ((box_below w6 (.cells #[.string a1, .string s1, .string s2, .string s3] 9)).mono HB6.out.size))
  have HFIN := Lib.hid (show ∀ w', Below (w6.heap.size + 1) (w6.alloc (.cells #[.string a1, .string s1, .string s2, .string s3] 9)) w' → Below w.heap.size w w' from fun w' hw => HBA.out.trans (hw.mono (by have := HB6.out.size; omega)))
  have HINI := Lib.hid (Below.refl (w6.heap.size + 1) (w6.alloc (.cells #[.string a1, .string s1, .string s2, .string s3] 9)))
  have HSZ := Lib.hid (show w6.heap.size + 1 ≤ (w6.alloc (.cells #[.string a1, .string s1, .string s2, .string s3] 9)).heap.size by simp)
  have HNX := Lib.hid (show ∀ w' w'', Below (w6.heap.size + 1) (w6.alloc (.cells #[.string a1, .string s1, .string s2, .string s3] 9)) w' → Below w'.heap.size w' w'' → Below (w6.heap.size + 1) (w6.alloc (.cells #[.string a1, .string s1, .string s2, .string s3] 9)) w'' from fun w' w'' h1 h2 => h1.trans (h2.mono (Nat.le_trans HSZ.out h1.size)))
  go_wp2_with fail
  generalize w6.alloc (.cells #[.string a1, .string s1, .string s2, .string s3] 9) = wA at *
  generalize w6.heap.size = G at *
  generalize [a1, s1, s2, s3] = ss at *
  clear hconv HB6 HBX HTP
  go_loopw [9] (fun i wr => Below (G + 1) wA wr ∧ ∃ k : Nat, k ≤ 4 ∧ i = .int .i64 (k : Int)) (fun i _ => 4 - (intOf i).toNat)
  case atStart => exact ⟨HINI.out, 0, by omega, rfl⟩
  case round =>
    obtain ⟨hbr, k, hk, rfl⟩ := hrel
    have HBR := Lib.hid hbr
    clear hbr
    by_cases hlt : k < 4
    · have hcell := HR.out _ HBR.out k hlt
      obtain ⟨S, hS⟩ : ∃ S, ss.getD k ByteArray.empty = S := ⟨_, rfl⟩
      have HS := Lib.hid (fun w' h => (HR.out w' h k hlt).trans (congrArg (fun x => some (Value.string x)) hS))
      rw [hS] at hcell
      clear hS
      by_cases hbig : 2000 < S.size
      · have hdb : (2000 : Int) < (S.size : Int) := by omega
        go_wp2
        exact ⟨⟨HBR.out, k + 1, by omega, by go_num⟩, by simp [intOf]; omega⟩
      · have hdb : ¬ (2000 : Int) < (S.size : Int) := by omega
        go_wp2_with fail
        go_loopw [10] (fun i wr => Below (G + 1) wA wr ∧ ∃ c : Int, -1 ≤ c ∧ c ≤ 6 ∧ i = .int .i64 c) (fun i _ => (6 - intOf i).toNat)
        case atStart => exact ⟨HBR.out, -1, by omega, by omega, rfl⟩
        case round =>
          obtain ⟨hbc, c, hc1, hc6, rfl⟩ := hrel
          have HBC := Lib.hid hbc
          clear hbc
          have hcell := HS.out _ HBC.out
          by_cases hc5 : c ≤ 5
          · obtain ⟨P, E, hv⟩ : ∃ P E, cplV c S = .tuple #[.string P, .int .i64 E] := ⟨_, _, rfl⟩
            have HV := Lib.hid hv
            clear hv
            go_wp2_with fail
            refine (complete_any c S _ (by omega)).mono ?_
            rintro e w2 ⟨rfl, hb2⟩
            rw [HV.out]
            have HB2 := Lib.hid (HNX.out _ _ HBC.out hb2)
            have hcell := HS.out _ HB2.out
            clear hb2
            go_wp2_with fail
            refine (refcomplete_any c S _ (by omega)).mono ?_
            rintro e w3 ⟨rfl, hb3⟩
            rw [HV.out]
            have HB3 := Lib.hid (HNX.out _ _ HB2.out hb3)
            clear hb3
            go_wp2_with fail
            exact ⟨⟨HB3.out, c + 1, by omega, by omega, by go_num⟩, by simp [intOf]; omega⟩
          · obtain rfl : c = 6 := by omega
            obtain ⟨P, E, hv⟩ : ∃ P E, cplV a2 S = .tuple #[.string P, .int .i64 E] := ⟨_, _, rfl⟩
            have HV := Lib.hid hv
            clear hv
            go_wp2_with fail
            refine (complete_any a2 S _ (by omega)).mono ?_
            rintro e w2 ⟨rfl, hb2⟩
            rw [HV.out]
            have HB2 := Lib.hid (HNX.out _ _ HBC.out hb2)
            have hcell := HS.out _ HB2.out
            clear hb2
            go_wp2_with fail
            refine (refcomplete_any a2 S _ (by omega)).mono ?_
            rintro e w3 ⟨rfl, hb3⟩
            rw [HV.out]
            have HB3 := Lib.hid (HNX.out _ _ HB2.out hb3)
            clear hb3
            go_wp2_with fail
            exact ⟨⟨HB3.out, k + 1, by omega, by go_num⟩, by simp [intOf]; omega⟩
    · obtain rfl : k = 4 := by omega
      go_wp2_with (go_at_call 23; refine (awake_any _).mono ?_; rintro e w9 ⟨rfl, hb9⟩)
      go_ret
      exact ⟨rfl, HFIN.out _ (HNX.out _ _ HBR.out hb9)⟩

/-! ### THE ROW's STEP: WRITTEN OUT: LEAVE IT -/
set_option maxRecDepth 100000 in
theorem lifted (os : Os) (started : os.Started) (H : Type) (enc : TypeId × Value → H) :
    ReturnsInHanded {} Tryd.checked os 4 .any (fun w args => (Rows.checksumCompletesSpec.pre enc Tryd.prog Tryd.f4 [] false w args ∧ laidMetH Tryd.prog laidL w) ∧ sizedMet enc Tryd.prog Tryd.f4 (OpenSpec.ofChange Rows.checksumCompletesSpec) false w args) (Rows.checksumCompletesSpec.post enc Tryd.prog Tryd.f4 false true false false) := by
  refine returnsInHanded_of_change_and (C := Tryd.checked) (X := fun w _ => laidMetH Tryd.prog laidL w) (fun _ _ _ hh h => h.of_heap hh) own started (by kernel_rfl) Tryd.func4
    (ChangeSpec.witness_shaped (enc := enc) (C := Tryd.checked) (os := os) (X := fun w _ => laidMetH Tryd.prog laidL w) false (World.doorLaid Tryd.prog 400 os) #[.slice none 0 0, .string ByteArray.empty, .int .i64 0] 8 rfl (World.shaped_of_RefB (by kernel_rfl) (by kernel_rfl)) (by kernel_rfl) (by kernel_rfl) (by kernel_rfl) (door_met os _)) ?_
  intro W base args ds gs before hval0 hW _ _ hL _
  have hval : ∀ (j : Nat) t v, Tryd.f4.params[j]? = some t → args[j]? = some v → Value.okWide Tryd.prog W .any base t v := hval0
  have hW' := hW
  obtain ⟨p, q, hA0, hV, rfl, hfz, hnd⟩ := hW
  have hA : DataW.TrodAll enc Tryd.prog W 0 (fun _ => true) true Tryd.f4.params.toList args.toList ds p := hA0
  rw [Tryd.params4] at hA hval
  obtain ⟨v0, vs0, d0, ds0, p0, q0, hargs, rfl, rfl, h0, r0⟩ := trodAll_cons hA
  obtain ⟨v1, vs1, d1, ds1, p1, q1, rfl, rfl, rfl, h1, r1⟩ := trodAll_cons r0
  obtain ⟨v2, vs2, d2, ds2, p2, q2, rfl, rfl, rfl, h2, r2⟩ := trodAll_cons r1
  obtain ⟨rfl, rfl, rfl⟩ := trodAll_nil r2
  obtain rfl : args = #[v0, v1, v2] := by cases args; simp_all
  obtain ⟨rfl, rfl⟩ := trodVars_none hV
  obtain ⟨a0, len0, cap0, rfl⟩ := okWide_slice Tryd.underlying22 (hval 0 22 v0 rfl rfl)
  have k0 := h0
  have lt0 : ∀ x ∈ p0, x.block < W.heap.size := by obtain ⟨m, hm⟩ := k0; exact DataW.trod_lt m _ _ _ hm
  obtain ⟨z0, w0⟩ : ∃ zs, IsRow .i64 W a0 len0 cap0 zs := by
    obtain ⟨fuel, hf⟩ := h0
    rcases open_ints Tryd.underlying22 Tryd.underlying3 (by kernel_rfl) hf with ⟨hcs, _⟩ | ⟨x, l, c, zs, hcs, _, hl, hm, hz, _, hcell, hwz⟩
    · simp [Value.cells] at hcs
      obtain ⟨rfl, rfl, rfl⟩ := hcs
      exact ⟨[], .inl ⟨rfl, rfl, rfl, rfl⟩⟩
    · simp [Value.cells] at hcs
      obtain ⟨rfl, rfl, rfl⟩ := hcs
      exact ⟨zs, .inr ⟨_, rfl, hl, hm, by simpa using hz, hcell, hwz⟩⟩
  obtain ⟨a1, rfl, rfl, rfl, w1⟩ := open_string Tryd.underlying9 (hval 1 9 v1 rfl rfl) h1
  obtain ⟨a2, rfl, rfl, rfl, w2⟩ := open_int Tryd.underlying3 (hval 2 3 v2 rfl rfl) h2
  clear hA0 hval0
  refine (walk a0 len0 cap0 z0 a1 a2 W w0 w1 w2).mono fun e W' ⟨he, bel⟩ => ?_
  subst he
  exact ⟨_, rfl, _, _, _, [], _, [], hW', trodAll_mk1 (shut_bool Tryd.underlying4 _), (trodAll_cons_mk (Below.trod laidOut (by kernel_rfl) (of_decide_eq_true (by kernel_rfl)) k0 bel lt0) (trodAll_cons_mk (shut_string Tryd.underlying9 w1) (trodAll_cons_mk (shut_int Tryd.underlying3 w2) trodAll_mk0))), rfl, bel.frame _, fun h => by cases h⟩

theorem over : Rows.checksumCompletesRow.holds Tryd.pinned (OpenSpec.ofChange Rows.checksumCompletesSpec) :=
  OpenClaim.holds_of_wide 4 Tryd.f4 rfl rfl rfl rfl rfl rfl rfl ⟨rfl, rfl, rfl, rfl, rfl⟩ rfl rfl rfl rfl rfl (by kernel_rfl) Tryd.func4 (by kernel_rfl)
    (of_decide_eq_true (by kernel_rfl)) (by unfold Func.isWrapper; first | (rw [if_pos (by decide +kernel)]; kernel_rfl) | (rw [if_neg (by decide +kernel)]; exact ⟨rfl, rfl⟩))
    (fun os started H enc _ => lifted os started H enc)

/-- ████ THE STATEMENT ████ -/
theorem proved : Rows.ChecksumCompletesSaid := over
#print axioms proved

/-- ████ THE TIED CARD ████ -/
theorem card : Rows.ChecksumCompletesCardSaid :=
  Claim7.holds_tied_plain_at .later [] [.data, .data, .data] true (true, "4935cba83d4df52bd0d5a43570ed45bb14e30fd3ba9468868efeb6f4e4a7b30a") false
    proved (fun _ h => by cases h) (by kernel_rfl) (fun _ h => by cases h) checksumCompletes_row_tie rfl ⟨rfl, rfl⟩ (by kernel_rfl) rfl
    (fun f fn hf hfn => by
      obtain rfl : f = 4 := Option.some.inj ((show Tryd.prog.funcNamed "leakresponse/leakresponselaw03.ChecksumCompletes" = some 4 by kernel_rfl).symm.trans hf) |>.symm
      obtain rfl : fn = Tryd.f4 := (Option.some.inj (Tryd.func4.symm.trans hfn)).symm
      exact ⟨by kernel_rfl, fun j t ht => by
        rw [Tryd.params4] at ht
        have hm : t ∈ [22, 9, 3] := by simpa using Array.mem_of_getElem? ht
        have hall : ([22, 9, 3].all fun u => !Tryd.prog.wantsStandIn u) = true := by kernel_rfl
        exact (show Tryd.prog.wantsStandIn t = false by simpa using List.all_eq_true.1 hall t hm)⟩)
    (by kernel_rfl)
#print axioms card
end Go.Proofs.YthofhljbipkiaaaDoor.checksumCompletes
