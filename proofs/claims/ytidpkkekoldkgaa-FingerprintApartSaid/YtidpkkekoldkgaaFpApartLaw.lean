/- For every tape, two keys and every kind, FingerprintApart returns true: what short texts, keys and kinds the fingerprint tells apart. No condition. -/
import Derived.Test.YtidpkkekoldkgaaFrame
import Derived.Test.YtidpkkekoldkgaaFpTell
import Derived.Deep.RegionHeld3
namespace Go.Proofs.Ytidpkkekoldkgaa.fingerprintApart
open Go.ChangeShapes Go.WideShapes Go.ChangeAt Go.RowKit
open Go.ChangeMaps (open_string shut_string)
open Go.Proofs.Ytidpkkekoldkgaa.Tp Go.Proofs.Ytidpkkekoldkgaa.Fp
open Go.Proofs.Ytidpkkekoldkgaa.Ent (Bytes)
set_option linter.unusedVariables false

theorem own_cap {w : World} {base n c : Nat} {A : Option Addr} {xs : List Value} (h : w.ownsRow base 5 1 (.slice A n c) n xs) : n ≤ c := by
  rcases h.2 with ⟨e, h0⟩ | ⟨g, cap, cur, e, _, _, hx⟩
  · omega
  · injection e with e1 e2 e3
    omega

def strB (bs : List Nat) : ByteArray := strOfNums (bs.map fun b : Nat => (b : Int))

theorem strB_inj {xs ys : List Nat} (hx : ∀ b ∈ xs, b ≤ 255) (hy : ∀ b ∈ ys, b ≤ 255) : (strB xs).toList = (strB ys).toList ↔ xs = ys := by
  constructor
  · intro h1
    rw [ByteArray.toList_eq, ByteArray.toList_eq] at h1
    simp only [strB, strOfNums_data, List.map_map] at h1
    have hl : xs.length = ys.length := by simpa using congrArg List.length h1
    apply List.ext_getElem hl
    intro i hi hj
    have h2 : (xs.map ((fun n : Int => UInt8.ofNat n.toNat) ∘ fun b : Nat => (b : Int)))[i]? = (ys.map ((fun n : Int => UInt8.ofNat n.toNat) ∘ fun b : Nat => (b : Int)))[i]? := by rw [h1]
    rw [List.getElem?_map, List.getElem?_map, List.getElem?_eq_getElem hi, List.getElem?_eq_getElem hj] at h2
    simp at h2
    have h3 := congrArg UInt8.toNat h2
    have b1 := hx _ (List.getElem_mem hi)
    have b2 := hy _ (List.getElem_mem hj)
    simp at h3
    omega
  · rintro rfl
    rfl

theorem conv_bytes {w : World} {A : Option Addr} {n : Nat} {bs : List Nat} (h : Bytes w A n bs) (h0 : 0 < n) (c : Nat) : (convert 27 9 (.slice A n c)).run Try.prog w = .ok (.string (strB bs)) w := by
  obtain ⟨h1, h2, h3, h4⟩ := h
  obtain ⟨b, off, rfl, hb, hc⟩ := h4 h0
  exact run_convert_bytes_arg w 27 5 Try.underlying27 Try.underlying5 b off n c _ (by simp [h1]) (fun i hi => by rw [hc i hi]; simp [h1, hi]) 9 Try.underlying9

set_option maxRecDepth 100000 in
set_option maxHeartbeats 4000000 in
theorem walk (a0 : Option Addr) (len0 cap0 : Nat) (z0 : List Int) (a1 : Int) (a2 : Int) (a3 : Int) (w : World) (w0 : IsRow .i64 w a0 len0 cap0 z0) (w1 : (Lit.int .u64 a1).wf = true) (w2 : (Lit.int .u64 a2).wf = true) (w3 : (Lit.int .i64 a3).wf = true) :
    Calls Try.prog 10 #[.slice a0 len0 cap0, .int .u64 a1, .int .u64 a2, .int .i64 a3] w fun e w' => e = .returned (.bool true) ∧ Below w.heap.size w w' := by
  have htp := tape_new w0
  have u1 : U64 a1 := ⟨(bounds_u64 w1).1, (bounds_u64 w1).2⟩
  have u2 : U64 a2 := ⟨(bounds_u64 w2).1, (bounds_u64 w2).2⟩
  clear w0 w1 w2 w3
  have HTP := Lib.hid htp
  have HAW := Lib.hid awake_any
  have HU1 := Lib.hid u1
  have HU2 := Lib.hid u2
  clear htp u1 u2
  go_enter Try.func10, Try.ntmps10
  go_wp2_with (first
    | (go_at_call 33; refine (between_any w.heap.size 1 8 _ HTP.out (by omega) (by omega) (by omega) (by omega)).mono ?_; rintro e wT ⟨r, hr1, hr7, rfl, hgT, htT⟩; obtain ⟨N, rfl⟩ : ∃ N : Nat, r = (N : Int) := ⟨r.toNat, by omega⟩; have HGT := Lib.hid hgT; have HTT := Lib.hid htT; clear hgT htT))
  have hszT := HGT.out.size
  simp at hszT
  have hN8 : N ≤ 8 := by omega
  have hN1 : 1 ≤ N := by omega
  clear hr1 hr7
  refine (bytes_any w.heap.size N _ HTT.out (by omega) (by omega)).mono ?_
  rintro e wA ⟨vA, rfl, bsA, hlA, hbA, hrowA, hgA, htA⟩
  have hszA := hgA.size
  obtain ⟨A, cA, rfl, _⟩ := row_form hrowA
  have hblA : Below w.heap.size w wA := (((Below.refl _ w).alloc (Nat.le_refl _) _).grown HGT.out (by simp) (fun k e => by cases e; omega)).grown hgA (by omega) (fun k e => by cases e; omega)
  have HLA := Lib.hid hlA
  have HBA := Lib.hid hbA
  have HRA := Lib.hid hrowA
  have HTA := Lib.hid htA
  have HBLA := Lib.hid hblA
  clear hlA hbA hrowA hgA htA hblA
  go_wp2_with fail
  refine (bytes_any w.heap.size N _ HTA.out (by omega) (by omega)).mono ?_
  rintro e wB ⟨vB, rfl, bsB, hlB, hbB, hrowB, hgB, htB⟩
  have hszB := hgB.size
  obtain ⟨B, cB, rfl, _⟩ := row_form hrowB
  have hblB : Below w.heap.size w wB := HBLA.out.grown hgB (by omega) (fun k e => by cases e; omega)
  have rowA := row_next (w := wT) (by omega) HRA.out hgB
  have HLB := Lib.hid hlB
  have HBB := Lib.hid hbB
  have HRB := Lib.hid hrowB
  have HTB := Lib.hid htB
  have HBLB := Lib.hid hblB
  have HRA2 := Lib.hid rowA
  clear hlB hbB hrowB hgB htB hblB rowA HTA HRA
  go_wp2_with (first
    | (go_at_call 17; refine (next_any w.heap.size 40 _ HTB.out (by omega) (by omega)).mono ?_; rintro e wU ⟨r, hr0, hr1, rfl, hgU, htU⟩; obtain ⟨M, rfl⟩ : ∃ M : Nat, r = (M : Int) := ⟨r.toNat, by omega⟩; have HGU := Lib.hid hgU; have HTU := Lib.hid htU; clear hgU htU))
  have hszU := HGU.out.size
  have hM : M ≤ 39 := by omega
  clear hr0 hr1
  refine (bytes_any w.heap.size M _ HTU.out (by omega) (by omega)).mono ?_
  rintro e wC ⟨vC, rfl, bsC, hlC, hbC, hrowC, hgC, htC⟩
  have hszC := hgC.size
  obtain ⟨C, cC, rfl, _⟩ := row_form hrowC
  have hblC : Below w.heap.size w wC := (HBLB.out.grown HGU.out (by omega) (fun k e => by cases e; omega)).grown hgC (by omega) (fun k e => by cases e; omega)
  have rowA := row_next (w := wT) (by omega) (row_next (w := wT) (by omega) HRA2.out HGU.out) hgC
  have rowB := row_next (w := wA) (by omega) (row_next (w := wA) (by omega) HRB.out HGU.out) hgC
  have hcA := own_cap rowA
  have hcB := own_cap rowB
  have hcC := own_cap hrowC
  have byA := bytes_of_row rowA HBA.out (by omega)
  have byB := bytes_of_row rowB HBB.out (by omega)
  have byC := bytes_of_row hrowC hbC (by omega)
  have HYA := Lib.hid byA
  have HYB := Lib.hid byB
  have HYC := Lib.hid byC
  have HLC := Lib.hid hlC
  have HBC := Lib.hid hbC
  have HBLC := Lib.hid hblC
  clear hlC hbC hrowC hgC htC hblC rowA rowB byA byB byC HTB HTU HGU HRA2 HRB HBLA HBLB HGT HTT HTP
  have hbr : Below wC.heap.size wC wC := Below.refl _ _
  have hbd : Below wC.heap.size wC wC.drew := hbr.drew
  have hkk : ∀ W, Below wC.heap.size wC W → (convert 27 9 (.slice A N cA)).run Try.prog W = .ok (.string (strB bsA)) W ∧ (convert 27 9 (.slice B N cB)).run Try.prog W = .ok (.string (strB bsB)) W ∧ Below wC.heap.size wC W :=
    fun W hb => ⟨conv_bytes (HYA.out.below hb) (by omega) _, conv_bytes (HYB.out.below hb) (by omega) _, hb⟩
  have HK := Lib.hid hkk
  clear hkk
  have hsm := fun W (hb : Below wC.heap.size wC W) => same_any a1 a3 A B N cA N cB bsA bsB W (HYA.out.below hb) (HYB.out.below hb) hcA hcB (by omega) (by omega)
  have HSM := Lib.hid hsm
  clear hsm
  have heq : ((strB bsA).toList == (strB bsB).toList) = (ofI a1 a3 bsA == ofI a1 a3 bsB) := by
    rw [Bool.eq_iff_iff, beq_iff_eq, beq_iff_eq, strB_inj HBA.out HBB.out, of_short HBA.out HBB.out hN1 hN8 HLA.out HLB.out]
  have HEQ := Lib.hid heq
  clear heq
  generalize strB bsA = SA at *
  generalize strB bsB = SB at *
  generalize ofI a1 a3 bsA = XA at *
  generalize ofI a1 a3 bsB = XB at *
  go_wp2_with fail
  go_region_held3 (fun w' => (convert 27 9 (.slice A N cA)).run Try.prog w' = .ok (.string SA) w' ∧ (convert 27 9 (.slice B N cB)).run Try.prog w' = .ok (.string SB) w' ∧ Below wC.heap.size wC w')
    (first | exact HK.out _ hbr | exact HK.out _ hbd | exact HK.out _ (hbr.trans hb2) | exact HK.out _ (hbd.trans hb2) | assumption)
    (first
      | (go_at_call 31; refine (HSM.out _ ?_).mono ?_; (first | assumption | (go_split_ands; assumption)); rintro e w2 ⟨rfl, hb2⟩))
  rw [HEQ.out, beq_self_eq_true, Bool.not_true]
  go_split_ands
  have hbw : Below wC.heap.size wC w2 := by assumption
  have HBW := Lib.hid hbw
  clear hbw
  have hof := fun key kind W (hb : Below wC.heap.size wC W) => of_any key kind C M cC bsC W (HYC.out.below hb) hcC
  have HOF := Lib.hid hof
  have hlC : bsC.length ≤ 65536 := by rw [HLC.out]; omega
  have hk1 : (a1 == a2) = (ofI a1 a3 bsC == ofI a2 a3 bsC) := by
    rw [Bool.eq_iff_iff, beq_iff_eq, beq_iff_eq, of_key HBC.out hlC HU1.out HU2.out]
  have hk2 : (ofI a1 a3 bsC != ofI a1 (bits .xor .i64 a3 1) bsC) = true := by
    rw [bne_iff_ne]
    intro h
    exact kind_ne a3 (of_kind HBC.out hlC HU1.out h).symm
  clear hof hlC
  cases hq : (a1 == a2)
  all_goals
    rw [hq] at hk1
    have hk1' := hk1.symm
    clear hk1
    go_wp2_with (first
      | (go_at_call 26; refine (HOF.out a1 a3 _ HBW.out).mono ?_; rintro e w3 ⟨rfl, hb3⟩; have HB3 := Lib.hid (HBW.out.trans (hb3.mono HBW.out.size)); clear hb3 HBW)
      | (go_at_call 26; refine (HOF.out a2 a3 _ HB3.out).mono ?_; rintro e w4 ⟨rfl, hb4⟩; have HB4 := Lib.hid (HB3.out.trans (hb4.mono HB3.out.size)); clear hb4 HB3)
      | (go_at_call 26; refine (HOF.out a1 a3 _ HB4.out).mono ?_; rintro e w5 ⟨rfl, hb5⟩; have HB5 := Lib.hid (HB4.out.trans (hb5.mono HB4.out.size)); clear hb5 HB4)
      | (go_at_call 26; refine (HOF.out a1 _ _ HB5.out).mono ?_; rintro e w6 ⟨rfl, hb6⟩; have HB6 := Lib.hid (HB5.out.trans (hb6.mono HB5.out.size)); clear hb6 HB5)
      | (go_at_call 30; refine (HAW.out _).mono ?_; rintro e w7 ⟨rfl, hb7⟩; have HB7 := Lib.hid (HB6.out.trans (hb7.mono HB6.out.size)); clear hb7))
  all_goals go_ret
  all_goals exact ⟨rfl, HBLC.out.trans (HB7.out.mono HBLC.out.size)⟩

/-! ### THE ROW's STEP: WRITTEN OUT: LEAVE IT -/
set_option maxRecDepth 100000 in
theorem lifted (os : Os) (started : os.Started) (H : Type) (enc : TypeId × Value → H) :
    ReturnsInHanded {} Try.checked os 10 .any (Rows.fingerprintApartSpec.pre6 enc Try.prog Try.f10 Rows.fingerprintApartRow.domain false) (Rows.fingerprintApartSpec.post enc Try.prog Try.f10 false true false false) := by
  refine returnsInHanded_of_change (C := Try.checked) own started (by kernel_rfl) Try.func10
    (ChangeSpec.witness6 (enc := enc) (C := Try.checked) false ⟨#[], #[.slice none 0 0, .int .u64 0, .int .u64 0, .int .i64 0], []⟩ 8 (by kernel_rfl) (by kernel_rfl) (by kernel_rfl) (by kernel_rfl)) ?_
  intro W base args ds gs before hval0 hW hcnd _
  have hval : ∀ (j : Nat) t v, Try.f10.params[j]? = some t → args[j]? = some v → Value.okWide Try.prog W .any base t v := hval0
  have hW' := hW
  obtain ⟨p, q, hA0, hV, rfl, hfz, hnd⟩ := hW
  have hA : DataW.TrodAll enc Try.prog W 0 (fun _ => true) true Try.f10.params.toList args.toList ds p := hA0
  rw [Try.params10] at hA hval
  obtain ⟨v0, vs0, d0, ds0, p0, q0, hargs, rfl, rfl, h0, r0⟩ := trodAll_cons hA
  obtain ⟨v1, vs1, d1, ds1, p1, q1, rfl, rfl, rfl, h1, r1⟩ := trodAll_cons r0
  obtain ⟨v2, vs2, d2, ds2, p2, q2, rfl, rfl, rfl, h2, r2⟩ := trodAll_cons r1
  obtain ⟨v3, vs3, d3, ds3, p3, q3, rfl, rfl, rfl, h3, r3⟩ := trodAll_cons r2
  obtain ⟨rfl, rfl, rfl⟩ := trodAll_nil r3
  obtain rfl : args = #[v0, v1, v2, v3] := by cases args; simp_all
  obtain ⟨rfl, rfl⟩ := trodVars_none hV
  obtain ⟨a0, len0, cap0, rfl⟩ := okWide_slice Try.underlying23 (hval 0 23 v0 rfl rfl)
  have k0 := h0
  have lt0 : ∀ x ∈ p0, x.block < W.heap.size := by obtain ⟨m, hm⟩ := k0; exact DataW.trod_lt m _ _ _ hm
  obtain ⟨z0, w0⟩ : ∃ zs, IsRow .i64 W a0 len0 cap0 zs := by
    obtain ⟨fuel, hf⟩ := h0
    rcases open_ints Try.underlying23 Try.underlying3 (by kernel_rfl) hf with ⟨hcs, _⟩ | ⟨x, l, c, zs, hcs, _, hl, hm, hz, _, hcell, hwz⟩
    · simp [Value.cells] at hcs
      obtain ⟨rfl, rfl, rfl⟩ := hcs
      exact ⟨[], .inl ⟨rfl, rfl, rfl, rfl⟩⟩
    · simp [Value.cells] at hcs
      obtain ⟨rfl, rfl, rfl⟩ := hcs
      exact ⟨zs, .inr ⟨_, rfl, hl, hm, by simpa using hz, hcell, hwz⟩⟩
  obtain ⟨a1, rfl, rfl, rfl, w1⟩ := open_int Try.underlying40 (hval 1 40 v1 rfl rfl) h1
  obtain ⟨a2, rfl, rfl, rfl, w2⟩ := open_int Try.underlying40 (hval 2 40 v2 rfl rfl) h2
  obtain ⟨a3, rfl, rfl, rfl, w3⟩ := open_int Try.underlying3 (hval 3 3 v3 rfl rfl) h3
  clear hA0 hval0
  refine (walk a0 len0 cap0 z0 a1 a2 a3 W w0 w1 w2 w3).mono fun e W' ⟨he, bel⟩ => ?_
  subst he
  exact ⟨_, rfl, _, _, _, [], _, [], hW', trodAll_mk1 (shut_bool Try.underlying4 _), (trodAll_cons_mk (Below.trod laidOut (by kernel_rfl) (of_decide_eq_true (by kernel_rfl)) k0 bel lt0) (trodAll_cons_mk (shut_int Try.underlying40 w1) (trodAll_cons_mk (shut_int Try.underlying40 w2) (trodAll_cons_mk (shut_int Try.underlying3 w3) trodAll_mk0)))), rfl, bel.frame _, fun h => by cases h⟩

theorem over : Rows.fingerprintApartRow.holds Try.pinned (OpenSpec.ofChange Rows.fingerprintApartSpec) :=
  OpenClaim.holds_of_wide 10 Try.f10 rfl rfl rfl rfl rfl rfl rfl ⟨rfl, rfl, rfl, rfl, rfl⟩ rfl rfl rfl rfl rfl (by kernel_rfl) Try.func10 (by kernel_rfl)
    (of_decide_eq_true (by kernel_rfl)) (by unfold Func.isWrapper; first | (rw [if_pos (by decide +kernel)]; kernel_rfl) | (rw [if_neg (by decide +kernel)]; exact ⟨rfl, rfl⟩))
    (fun os started H enc _ => lifted os started H enc)

/-- ████ THE STATEMENT ████ -/
theorem proved : Rows.FingerprintApartSaid := over
#print axioms proved
end Go.Proofs.Ytidpkkekoldkgaa.fingerprintApart
