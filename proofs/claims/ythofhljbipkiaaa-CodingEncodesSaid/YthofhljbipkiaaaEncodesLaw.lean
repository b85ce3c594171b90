/- For every tape, every slice of bytes and every number, CodingEncodes returns true: the encoding of bytes, or the error. No condition. -/
import Derived.Test.YthofhljbipkiaaaCoP
import Derived.Test.YthofhljbipkiaaaCoN
import Derived.Deep.RegionHeld3
import Derived.Laws.Rows
import Derived.Below
namespace Go.Proofs.Ythofhljbipkiaaa.codingEncodes
open Go.ChangeShapes Go.WideShapes Go.ChangeAt Go.RowKit
open Go.ChangeMaps (open_string shut_string)
open Go.Proofs.Ythofhljbipkiaaa.Tp
open Go.Proofs.Ythofhljbipkiaaa.Co
set_option linter.unusedVariables false

theorem and3i (n : Int) : bits .and .i64 n 3 = n % 4 := by
  have hm : (BitVec.ofInt 64 3).toNat = 2 ^ 2 - 1 := by decide
  have key : (BitVec.ofInt 64 n &&& BitVec.ofInt 64 3).toNat = (n % ((2 ^ 64 : Nat) : Int)).toNat % 2 ^ 2 := by
    rw [BitVec.toNat_and, BitVec.toNat_ofInt, hm, Nat.and_two_pow_sub_one_eq_mod]
  show IntKind.i64.wrap ((BitVec.ofInt 64 n &&& BitVec.ofInt 64 3).toNat : Nat) = n % 4
  rw [key, IntKind.wrap_i64]
  omega

theorem cell_mk {w : World} {g : Nat} {cs : Array Value} {t : TypeId} (h : w.heap[g]? = some (.cells cs t (0, 0))) (j : Nat) (hj : j < cs.size) : w.cell? ⟨g, j, none⟩ = some (cs.toList.getD j undef) := by
  rw [cell_of_row _ _ _ _ _ _ h]
  simp [hj]

/-- The three rows of bytes. -/
theorem rows3 {w6 : World} {X0 X1 : Value} {b0 b1 : List Nat} (y0 : By w6 X0 b0) (y1 : By w6 X1 b1) {w' : World} (hb : Below w6.heap.size w6 w') (j : Nat) (hj : j < 3) :
    By w' ([X0, X1, .slice none 0 0].getD j undef) ([b0, b1, []].getD j []) := by
  rcases (by omega : j = 0 ∨ j = 1 ∨ j = 2) with rfl | rfl | rfl
  · exact y0.below hb
  · exact y1.below hb
  · exact ⟨by simp, .inl ⟨none, 0, rfl, rfl⟩⟩

theorem six {a b c d e f : Int} (j : Nat) (hj : j < 6) : ∃ x : Int, [Value.int .i64 a, .int .i64 b, .int .i64 c, .int .i64 d, .int .i64 e, .int .i64 f].getD j undef = .int .i64 x := by
  rcases (by omega : j = 0 ∨ j = 1 ∨ j = 2 ∨ j = 3 ∨ j = 4 ∨ j = 5) with rfl | rfl | rfl | rfl | rfl | rfl <;> exact ⟨_, rfl⟩

theorem laid2 (w0 w6 W : World) (X0 X1 : Value) (b0 b1 : List Nat) (cs : Array Value) (hcs : cs.size = 6) (hB : Below w0.heap.size w0 w6) (y0 : By w6 X0 b0) (y1 : By w6 X1 b1)
    (hW : W = (w6.alloc (.cells #[X0, X1, .slice none 0 0] 23)).alloc (.cells cs 3)) :
    (∀ w', Below W.heap.size W w' → Below w0.heap.size w0 w') ∧
    (∀ w', Below W.heap.size W w' → ∀ j, j < 3 → w'.cell? ⟨w6.heap.size, j, none⟩ = some ([X0, X1, .slice none 0 0].getD j undef) ∧ By w' ([X0, X1, .slice none 0 0].getD j undef) ([b0, b1, []].getD j [])) ∧
    (∀ w', Below W.heap.size W w' → ∀ j, j < 6 → w'.cell? ⟨w6.heap.size + 1, j, none⟩ = some (cs.toList.getD j undef)) := by
  have e1 : (w6.alloc (.cells #[X0, X1, .slice none 0 0] 23)).heap.size = w6.heap.size + 1 := by
    show (w6.heap.push _).size = _
    simp
  have e2 : W.heap.size = w6.heap.size + 2 := by
    rw [hW]
    show ((w6.alloc _).heap.push _).size = _
    simp
  have h1 : W.heap[w6.heap.size]? = some (.cells #[X0, X1, .slice none 0 0] 23) := by
    rw [hW]
    exact ((box_below _ _).block w6.heap.size (by omega)).trans (heap_alloc_new _ _)
  have h2 : W.heap[w6.heap.size + 1]? = some (.cells cs 3) := by
    rw [hW]
    exact heap_alloc2_new _ _ _
  have hb6 : Below w6.heap.size w6 W := by
    rw [hW]
    exact (box_below _ _).trans ((box_below _ _).mono (by omega))
  refine ⟨fun w' hw => hB.trans ((hb6.trans (hw.mono hb6.size)).mono hB.size), fun w' hw j hj => ⟨?_, rows3 y0 y1 (hb6.trans (hw.mono hb6.size)) j hj⟩, fun w' hw j hj => ?_⟩
  · refine (hw.cell (p := ⟨w6.heap.size, j, none⟩) (by simp; omega)).trans ?_
    exact cell_mk h1 j hj
  · refine (hw.cell (p := ⟨w6.heap.size + 1, j, none⟩) (by simp; omega)).trans ?_
    exact cell_mk h2 j (by omega)

set_option maxRecDepth 100000 in
set_option maxHeartbeats 8000000 in
theorem walk (a0 : Option Addr) (len0 cap0 : Nat) (z0 : List Int) (a1 : Option Addr) (len1 cap1 : Nat) (z1 : List Int) (a2 : Int) (w : World) (w0 : IsRow .i64 w a0 len0 cap0 z0) (w1 : IsRow .u8 w a1 len1 cap1 z1) (w2 : (Lit.int .i64 a2).wf = true) :
    Calls Try.prog 3 #[.slice a0 len0 cap0, .slice a1 len1 cap1, .int .i64 a2] w fun e w' => e = .returned (.bool true) ∧ Below w.heap.size w w' := by
  have HTP := Lib.hid (tape_new w0)
  have HBX := Lib.hid (box_below w (.cells #[.slice a0 len0 cap0, .int .i64 0] 26))
  obtain ⟨b0, hl0, hy0⟩ := by_in w1
  have HY0 := Lib.hid hy0
  clear w0 w1 w2 hy0
  obtain ⟨m, hm, hm1⟩ : ∃ m : Nat, a2 % 4 = (m : Int) ∧ m < 4 := ⟨(a2 % 4).toNat, by omega, by omega⟩
  have e1 : bits .and .i64 a2 3 = (m : Int) := (and3i a2).trans hm
  obtain ⟨M, hM⟩ : ∃ M, 1 + m = M := ⟨_, rfl⟩
  have e2 : (1 : Int) + (m : Int) = (M : Int) := by omega
  have e3 : IntKind.i64.wrap (M : Int) = (M : Int) := IntWalk.i64_in _ (by omega)
  clear hm hM
  go_enter Try.func3, Try.ntmps3
  go_wp2_with fail
  refine (next_any w.heap.size 20 _ HTP.out (by omega) (by omega)).mono ?_
  rintro e w1 ⟨x, hx0, hx1, rfl, hg1, ht1⟩
  obtain ⟨n1, rfl⟩ : ∃ m : Nat, x = m := ⟨x.toNat, by omega⟩
  have hs1 := hg1.size
  simp at hs1
  have HB1 := Lib.hid (HBX.out.grown hg1 HBX.out.size (fun k e => by cases e; exact Nat.le_refl _))
  have HT1 := Lib.hid ht1
  clear hg1 ht1
  go_wp2_with fail
  refine (bytes_any w.heap.size n1 _ HT1.out (by omega) (by omega)).mono ?_
  rintro e w6 ⟨v, rfl, bs, hl, hb, hrow, hg6, ht6⟩
  have HB6 := Lib.hid (HB1.out.grown hg6 HB1.out.size (fun k e => by cases e; exact Nat.le_refl _))
  have HY1 := Lib.hid (by_own hrow hl hb).1
  have hl1 : bs.length ≤ 100 := by omega
  obtain ⟨D1, c1, rfl⟩ := HY1.out.form
  clear hg6 ht6 hrow hb hl HB1 HT1 hs1 hx0 hx1
  obtain ⟨hFIN, hROW, hCS⟩ := laid2 w w6 _ (.slice a1 len1 cap1) (.slice D1 bs.length c1) b0 bs #[.int .i64 a2, .int .i64 (M : Int), .int .i64 1, .int .i64 2, .int .i64 3, .int .i64 4] rfl HB6.out (HY0.out.below HB6.out) HY1.out rfl
  have HFIN := Lib.hid hFIN
  have HROW := Lib.hid hROW
  have HCS := Lib.hid hCS
  clear hFIN hROW hCS
  have hrl : ∀ j, j < 3 → ([b0, bs, []].getD j []).length = lenOf ([Value.slice a1 len1 cap1, .slice D1 bs.length c1, .slice none 0 0].getD j undef) := fun j hj => by
    rcases (by omega : j = 0 ∨ j = 1 ∨ j = 2) with rfl | rfl | rfl
    · exact hl0
    · rfl
    · rfl
  have HRL := Lib.hid hrl
  clear hrl
  go_wp2_with fail
  generalize (w6.alloc (.cells #[.slice a1 len1 cap1, .slice D1 bs.length c1, .slice none 0 0] 23)).alloc (.cells #[.int .i64 a2, .int .i64 (M : Int), .int .i64 1, .int .i64 2, .int .i64 3, .int .i64 4] 3) = wA at *
  have HNX := Lib.hid (show ∀ w' w'', Below wA.heap.size wA w' → Below w'.heap.size w' w'' → Below wA.heap.size wA w'' from fun w' w'' h1 h2 => h1.trans (h2.mono h1.size))
  have HINI := Lib.hid (Below.refl wA.heap.size wA)
  generalize [Value.slice a1 len1 cap1, .slice D1 bs.length c1, .slice none 0 0] = Xs at *
  generalize [b0, bs, []] = Bs at *
  have HSX := Lib.hid (fun j hj => six (a := a2) (b := (M : Int)) (c := 1) (d := 2) (e := 3) (f := 4) j hj)
  generalize hcs : [Value.int .i64 a2, .int .i64 (M : Int), .int .i64 1, .int .i64 2, .int .i64 3, .int .i64 4] = Cs at *
  have HCS2 := Lib.hid (show ∀ w', Below wA.heap.size wA w' → ∀ j, j < 6 → w'.cell? ⟨w6.heap.size + 1, j, none⟩ = some (Cs.getD j undef) from HCS.out)
  clear HCS hcs HY1 HY0 HB6 HBX HTP
  generalize wA.heap.size = B at *
  go_loopw [10] (fun i w3 => Below B wA w3 ∧ ∃ k : Nat, k ≤ 3 ∧ i = .int .i64 (k : Int)) (fun i _ => 3 - (intOf i).toNat)
  case atStart => exact ⟨HINI.out, 0, by omega, rfl⟩
  case round =>
    obtain ⟨hbr, k, hk, rfl⟩ := hrel
    have HBR := Lib.hid hbr
    clear hbr
    by_cases hlt : k < 3
    · obtain ⟨V, hV⟩ : ∃ V, Xs.getD k undef = V := ⟨_, rfl⟩
      obtain ⟨L, hL⟩ : ∃ L, Bs.getD k [] = L := ⟨_, rfl⟩
      have HS := Lib.hid (show ∀ w', Below B wA w' → w'.cell? ⟨w6.heap.size, k, none⟩ = some V ∧ By w' V L from fun w' hw => by rw [← hV, ← hL]; exact HROW.out w' hw k hlt)
      have hlen := HRL.out k hlt
      rw [hV, hL] at hlen
      obtain ⟨hcell, hby⟩ := HS.out _ HBR.out
      obtain ⟨D, c, rfl⟩ := hby.form
      obtain ⟨n, hn⟩ : ∃ n, L.length = n := ⟨_, rfl⟩
      rw [hn] at hcell HS
      have HN := Lib.hid hn
      have hki : (k : Int) < 3 := by omega
      clear hby hlen hV hL hn
      by_cases hbig : 3000 < n
      · have hdb : (3000 : Int) < (n : Int) := by omega
        go_wp2
        exact ⟨⟨HBR.out, k + 1, by omega, by go_num⟩, by simp [intOf]; omega⟩
      · have hdb : ¬ (3000 : Int) < (n : Int) := by omega
        go_wp2_with fail
        go_loopw [11] (fun i w3 => Below B wA w3 ∧ ∃ j : Nat, j ≤ 6 ∧ i = .int .i64 (j : Int)) (fun i _ => 6 - (intOf i).toNat)
        case atStart => exact ⟨HBR.out, 0, by omega, rfl⟩
        case round =>
          obtain ⟨hbc, j, hj, rfl⟩ := hrel
          have HBC := Lib.hid hbc
          clear hbc
          by_cases hjl : j < 6
          · obtain ⟨x, hx⟩ := HSX.out j hjl
            have HC1 := Lib.hid (show ∀ w', Below B wA w' → w'.cell? ⟨w6.heap.size + 1, j, none⟩ = some (.int .i64 x) from fun w' hw => by rw [← hx]; exact HCS2.out w' hw j hjl)
            have hji : (j : Int) < 6 := by omega
            have HH := Lib.hid (show ∀ w', Below B wA w' → (w'.cell? ⟨w6.heap.size, k, none⟩ = some (.slice D n c) ∧ w'.cell? ⟨w6.heap.size + 1, j, none⟩ = some (.int .i64 x)) ∧ Below B wA w' from fun w' hw => ⟨⟨(HS.out w' hw).1, HC1.out w' hw⟩, hw⟩)
            have HHN := Lib.hid (show ∀ w' w'', ((w'.cell? ⟨w6.heap.size, k, none⟩ = some (.slice D n c) ∧ w'.cell? ⟨w6.heap.size + 1, j, none⟩ = some (.int .i64 x)) ∧ Below B wA w') → Below w'.heap.size w' w'' → ((w''.cell? ⟨w6.heap.size, k, none⟩ = some (.slice D n c) ∧ w''.cell? ⟨w6.heap.size + 1, j, none⟩ = some (.int .i64 x)) ∧ Below B wA w'') from fun w' w'' h1 h2 => HH.out _ (HNX.out _ _ h1.2 h2))
            have HBYS := Lib.hid (show ∀ w', ((w'.cell? ⟨w6.heap.size, k, none⟩ = some (.slice D n c) ∧ w'.cell? ⟨w6.heap.size + 1, j, none⟩ = some (.int .i64 x)) ∧ Below B wA w') → By w' (.slice D n c) L from fun w' h => (HS.out w' h.2).2)
            have HLL := Lib.hid (show L.length ≤ 1000000 by rw [HN.out]; omega)
            obtain ⟨P, E, hv⟩ : ∃ P E, encV x L = .tuple #[.string P, .int .i64 E] := by
              unfold encV
              split
              · exact ⟨_, _, rfl⟩
              split <;> exact ⟨_, _, rfl⟩
            have HV := Lib.hid hv
            have hS1 := HH.out _ HBC.out.drew
            clear hv hx
            go_wp2_with fail
            go_region_held3 (fun w' => (w'.cell? ⟨w6.heap.size, k, none⟩ = some (.slice D n c) ∧ w'.cell? ⟨w6.heap.size + 1, j, none⟩ = some (.int .i64 x)) ∧ Below B wA w') (first | exact hS1 | assumption) (first
              | (go_at_call 10; refine (encode_any x _ L _ (HBYS.out _ (by assumption)) HLL.out).mono ?_; rintro e w4 ⟨rfl, hb4⟩; rw [HV.out]; have hy4 := HHN.out _ _ (by assumption) hb4; clear hb4))
            have HY4 := Lib.hid hy4
            have hS2 := HH.out _ HY4.out.2.drew
            clear hy4
            go_wp2_with fail
            go_region_held3 (fun w' => (w'.cell? ⟨w6.heap.size, k, none⟩ = some (.slice D n c) ∧ w'.cell? ⟨w6.heap.size + 1, j, none⟩ = some (.int .i64 x)) ∧ Below B wA w') (first | exact hS2 | assumption) (first
              | (go_at_call 11; refine (refencode_any x _ L _ (HBYS.out _ (by assumption)) HLL.out).mono ?_; rintro e w5 ⟨rfl, hb5⟩; rw [HV.out]; have hy5 := HHN.out _ _ (by assumption) hb5; clear hb5))
            have HY5 := Lib.hid hy5
            have hS3 := HH.out _ HY5.out.2.drew
            clear hy5
            go_wp2_with fail
            go_region_held3 (fun w' => (w'.cell? ⟨w6.heap.size, k, none⟩ = some (.slice D n c) ∧ w'.cell? ⟨w6.heap.size + 1, j, none⟩ = some (.int .i64 x)) ∧ Below B wA w') (first | exact hS3 | assumption) (first
              | (go_at_call 12; refine (valid_any x _).mono ?_; rintro e w7 ⟨rfl, rfl⟩)
              | (go_at_call 13; refine (refvalid_any x _).mono ?_; rintro e w7 ⟨rfl, rfl⟩))
            all_goals
              go_wp2_with fail
              exact ⟨⟨hS3.2, j + 1, by omega, by go_num⟩, by simp [intOf]; omega⟩
          · obtain rfl : j = 6 := by omega
            go_wp2_with fail
            first
              | exact ⟨⟨HBC.out, k + 1, by omega, by go_num⟩, by simp [intOf]; omega⟩
              | (refine ⟨?_, by simp [intOf]; omega⟩
                 repeat apply Exists.intro
                 refine ⟨?_, rfl⟩
                 exact ⟨HBC.out, k + 1, by omega, by go_num⟩)
    · obtain rfl : k = 3 := by omega
      go_wp2_with (go_at_call 14; refine (awake_any _).mono ?_; rintro e w9 ⟨rfl, hb9⟩)
      go_ret
      exact ⟨rfl, HFIN.out _ (HNX.out _ _ HBR.out hb9)⟩

/-! ### THE ROW's STEP: WRITTEN OUT: LEAVE IT -/
set_option maxRecDepth 100000 in
theorem lifted (os : Os) (started : os.Started) (H : Type) (enc : TypeId × Value → H) :
    ReturnsInHanded {} Try.checked os 3 .any (Rows.codingEncodesSpec.pre6 enc Try.prog Try.f3 Rows.codingEncodesRow.domain false) (Rows.codingEncodesSpec.post enc Try.prog Try.f3 false true false false) := by
  refine returnsInHanded_of_change (C := Try.checked) own started (by kernel_rfl) Try.func3
    (ChangeSpec.witness6 (enc := enc) (C := Try.checked) false ⟨#[], #[.slice none 0 0, .slice none 0 0, .int .i64 0], []⟩ 8 (by kernel_rfl) (by kernel_rfl) (by kernel_rfl) (by kernel_rfl)) ?_
  intro W base args ds gs before hval0 hW hcnd _
  have hval : ∀ (j : Nat) t v, Try.f3.params[j]? = some t → args[j]? = some v → Value.okWide Try.prog W .any base t v := hval0
  have hW' := hW
  obtain ⟨p, q, hA0, hV, rfl, hfz, hnd⟩ := hW
  have hA : DataW.TrodAll enc Try.prog W 0 (fun _ => true) true Try.f3.params.toList args.toList ds p := hA0
  rw [Try.params3] at hA hval
  obtain ⟨v0, vs0, d0, ds0, p0, q0, hargs, rfl, rfl, h0, r0⟩ := trodAll_cons hA
  obtain ⟨v1, vs1, d1, ds1, p1, q1, rfl, rfl, rfl, h1, r1⟩ := trodAll_cons r0
  obtain ⟨v2, vs2, d2, ds2, p2, q2, rfl, rfl, rfl, h2, r2⟩ := trodAll_cons r1
  obtain ⟨rfl, rfl, rfl⟩ := trodAll_nil r2
  obtain rfl : args = #[v0, v1, v2] := by cases args; simp_all
  obtain ⟨rfl, rfl⟩ := trodVars_none hV
  obtain ⟨a0, len0, cap0, rfl⟩ := okWide_slice Try.underlying22 (hval 0 22 v0 rfl rfl)
  have k0 := h0
  have lt0 : ∀ x ∈ p0, x.block < W.heap.size := by obtain ⟨m, hm⟩ := k0; exact DataW.trod_lt m _ _ _ hm
  obtain ⟨z0, w0⟩ : ∃ zs, IsRow .i64 W a0 len0 cap0 zs := by
    obtain ⟨fuel, hf⟩ := h0
    rcases open_ints Try.underlying22 Try.underlying3 (by kernel_rfl) hf with ⟨hcs, _⟩ | ⟨x, l, c, zs, hcs, _, hl, hm, hz, _, hcell, hwz⟩
    · simp [Value.cells] at hcs
      obtain ⟨rfl, rfl, rfl⟩ := hcs
      exact ⟨[], .inl ⟨rfl, rfl, rfl, rfl⟩⟩
    · simp [Value.cells] at hcs
      obtain ⟨rfl, rfl, rfl⟩ := hcs
      exact ⟨zs, .inr ⟨_, rfl, hl, hm, by simpa using hz, hcell, hwz⟩⟩
  obtain ⟨a1, len1, cap1, rfl⟩ := okWide_slice Try.underlying23 (hval 1 23 v1 rfl rfl)
  have k1 := h1
  have lt1 : ∀ x ∈ p1, x.block < W.heap.size := by obtain ⟨m, hm⟩ := k1; exact DataW.trod_lt m _ _ _ hm
  obtain ⟨z1, w1⟩ : ∃ zs, IsRow .u8 W a1 len1 cap1 zs := by
    obtain ⟨fuel, hf⟩ := h1
    rcases open_ints Try.underlying23 Try.underlying5 (by kernel_rfl) hf with ⟨hcs, _⟩ | ⟨x, l, c, zs, hcs, _, hl, hm, hz, _, hcell, hwz⟩
    · simp [Value.cells] at hcs
      obtain ⟨rfl, rfl, rfl⟩ := hcs
      exact ⟨[], .inl ⟨rfl, rfl, rfl, rfl⟩⟩
    · simp [Value.cells] at hcs
      obtain ⟨rfl, rfl, rfl⟩ := hcs
      exact ⟨zs, .inr ⟨_, rfl, hl, hm, by simpa using hz, hcell, hwz⟩⟩
  obtain ⟨a2, rfl, rfl, rfl, w2⟩ := open_int Try.underlying3 (hval 2 3 v2 rfl rfl) h2
  clear hA0 hval0
  refine (walk a0 len0 cap0 z0 a1 len1 cap1 z1 a2 W w0 w1 w2).mono fun e W' ⟨he, bel⟩ => ?_
  subst he
  exact ⟨_, rfl, _, _, _, [], _, [], hW', trodAll_mk1 (shut_bool Try.underlying4 _), (trodAll_cons_mk (Below.trod laidOut (by kernel_rfl) (of_decide_eq_true (by kernel_rfl)) k0 bel lt0) (trodAll_cons_mk (Below.trod laidOut (by kernel_rfl) (of_decide_eq_true (by kernel_rfl)) k1 bel lt1) (trodAll_cons_mk (shut_int Try.underlying3 w2) trodAll_mk0))), rfl, bel.frame _, fun h => by cases h⟩

theorem over : Rows.codingEncodesRow.holds Try.pinned (OpenSpec.ofChange Rows.codingEncodesSpec) :=
  OpenClaim.holds_of_wide 3 Try.f3 rfl rfl rfl rfl rfl rfl rfl ⟨rfl, rfl, rfl, rfl, rfl⟩ rfl rfl rfl rfl rfl (by kernel_rfl) Try.func3 (by kernel_rfl)
    (of_decide_eq_true (by kernel_rfl)) (by unfold Func.isWrapper; first | (rw [if_pos (by decide +kernel)]; kernel_rfl) | (rw [if_neg (by decide +kernel)]; exact ⟨rfl, rfl⟩))
    (fun os started H enc _ => lifted os started H enc)

/-- ████ THE STATEMENT ████ -/
theorem proved : Rows.CodingEncodesSaid := over
#print axioms proved
end Go.Proofs.Ythofhljbipkiaaa.codingEncodes
