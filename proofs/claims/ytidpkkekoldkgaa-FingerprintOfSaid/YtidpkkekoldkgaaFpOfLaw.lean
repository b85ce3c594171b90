/- For every tape, key, kind and byte slice, FingerprintOf returns true: Of and Mix answer as their specifications. No condition. -/
import Derived.Test.YtidpkkekoldkgaaFrame
import Derived.Test.YtidpkkekoldkgaaFpSame
import Derived.Deep.RegionHeld3
namespace Go.Proofs.Ytidpkkekoldkgaa.fingerprintOf
open Go.ChangeShapes Go.WideShapes Go.ChangeAt Go.RowKit
open Go.ChangeMaps (open_string shut_string)
open Go.Proofs.Ytidpkkekoldkgaa.Tp Go.Proofs.Ytidpkkekoldkgaa.Fp
open Go.Proofs.Ytidpkkekoldkgaa.Ent (Bytes)
set_option linter.unusedVariables false

theorem row_cap {k : IntKind} {w : World} {a : Option Addr} {len cap : Nat} {zs : List Int} (h : IsRow k w a len cap zs) : len ≤ cap := by
  rcases h with ⟨rfl, rfl, rfl, rfl⟩ | ⟨x, rfl, hl, _⟩
  · exact Nat.le_refl _
  · exact hl

theorem own_cap {w : World} {base n c : Nat} {A : Option Addr} {xs : List Value} (h : w.ownsRow base 5 1 (.slice A n c) n xs) : n ≤ c := by
  rcases h.2 with ⟨e, h0⟩ | ⟨g, cap, cur, e, _, _, hx⟩
  · omega
  · injection e with e1 e2 e3
    omega

/-- The three slices that the law's loop goes over. -/
def T3 (G : Nat) (wr : World) : Prop := ∀ k, k < 3 → ∃ (A : Option Addr) (n c : Nat) (bs : List Nat), wr.cell? ⟨G, k, none⟩ = some (.slice A n c) ∧ Bytes wr A n bs ∧ n ≤ c

theorem T3.below {G : Nat} {w w' : World} (h : T3 G w) (hG : G < w.heap.size) (hb : Below w.heap.size w w') : T3 G w' := by
  intro k hk
  obtain ⟨A, n, c, bs, h1, h2, h3⟩ := h k hk
  exact ⟨A, n, c, bs, (hb.cell (p := ⟨G, k, none⟩) hG).trans h1, h2.below hb, h3⟩

theorem bytes_nil (w : World) : Bytes w none 0 [] := ⟨rfl, by simp, by omega, fun h => absurd h (by omega)⟩

theorem t3_new {w : World} {A B : Option Addr} {n c m d : Nat} {xs ys : List Nat} (hx : Bytes w A n xs) (hy : Bytes w B m ys) (hc : n ≤ c) (hd : m ≤ d) : T3 w.heap.size (w.alloc (.cells #[.slice A n c, .slice B m d, .slice none 0 0] 27)) := by
  intro k hk
  have hb : Below w.heap.size w (w.alloc (.cells #[.slice A n c, .slice B m d, .slice none 0 0] 27)) := (Below.refl _ _).alloc (Nat.le_refl _) _
  rw [cell_of_row _ _ _ _ _ _ (heap_alloc_new _ _)]
  rcases (by omega : k = 0 ∨ k = 1 ∨ k = 2) with rfl | rfl | rfl
  · exact ⟨A, n, c, xs, rfl, hx.below hb, hc⟩
  · exact ⟨B, m, d, ys, rfl, hy.below hb, hd⟩
  · exact ⟨none, 0, 0, [], rfl, bytes_nil _, Nat.le_refl _⟩

theorem keepS {G k : Nat} {wr W W2 : World} {v : Option Value} (hb : Below W.heap.size W W2) (h1 : W.cell? ⟨G, k, none⟩ = v) (h2 : Below wr.heap.size wr W) (hG : G < wr.heap.size) : W2.cell? ⟨G, k, none⟩ = v ∧ Below wr.heap.size wr W2 :=
  ⟨(hb.cell (p := ⟨G, k, none⟩) (Nat.lt_of_lt_of_le hG h2.size)).trans h1, h2.trans (hb.mono h2.size)⟩

set_option maxRecDepth 100000 in
set_option maxHeartbeats 4000000 in
theorem walk (a0 : Option Addr) (len0 cap0 : Nat) (z0 : List Int) (a1 : Int) (a2 : Int) (a3 : Option Addr) (len3 cap3 : Nat) (z3 : List Int) (w : World) (w0 : IsRow .i64 w a0 len0 cap0 z0) (w1 : (Lit.int .u64 a1).wf = true) (w2 : (Lit.int .i64 a2).wf = true) (w3 : IsRow .u8 w a3 len3 cap3 z3) :
    Calls Try.prog 8 #[.slice a0 len0 cap0, .int .u64 a1, .int .i64 a2, .slice a3 len3 cap3] w fun e w' => e = .returned (.bool true) ∧ Below w.heap.size w w' := by
  have htp := tape_new w0
  have hc3 := row_cap w3
  obtain ⟨xs, hxs⟩ := bytes_in w3
  have hm3 := hxs.2.2.1
  clear w0 w1 w2 w3
  have HTP := Lib.hid htp
  have HX := Lib.hid hxs
  have HAW := Lib.hid awake_any
  clear htp hxs
  go_enter Try.func8, Try.ntmps8
  go_wp2_with (first
    | (go_at_call 17; refine (next_any w.heap.size 30 _ HTP.out (by omega) (by omega)).mono ?_; rintro e wT ⟨r, hr0, hr1, rfl, hgT, htT⟩; obtain ⟨N, rfl⟩ : ∃ N : Nat, r = (N : Int) := ⟨r.toNat, by omega⟩; have HGT := Lib.hid hgT; have HTT := Lib.hid htT; clear hgT htT))
  have hszT := HGT.out.size
  simp at hszT
  have hN : N ≤ 29 := by omega
  clear hr0 hr1
  refine (bytes_any w.heap.size N _ HTT.out (by omega) (by omega)).mono ?_
  rintro e wA ⟨vA, rfl, bsA, hlA, hbA, hrowA, hgA, htA⟩
  have hszA := hgA.size
  obtain ⟨A, cA, rfl, _⟩ := row_form hrowA
  have hcA := own_cap hrowA
  have hbl : Below w.heap.size w wA := (((Below.refl _ w).alloc (Nat.le_refl _) _).grown HGT.out (by simp) (fun k e => by cases e; omega)).grown hgA (by omega) (fun k e => by cases e; omega)
  have byA := bytes_of_row hrowA hbA (by omega)
  have HBL := Lib.hid hbl
  have HBY := Lib.hid byA
  have HXA := Lib.hid (HX.out.below hbl)
  clear hlA hbA hrowA hgA htA hbl byA HTP HTT HGT HX
  have ht3 := t3_new HXA.out HBY.out hc3 hcA
  have HT3 := Lib.hid ht3
  have HMX := Lib.hid mix_any
  have HRX := Lib.hid refmix_any
  clear ht3
  go_wp2_with fail
  have hbl2 : Below w.heap.size w (wA.alloc (.cells #[.slice a3 len3 cap3, .slice A N cA, .slice none 0 0] 27)) := HBL.out.alloc HBL.out.size _
  have HBL2 := Lib.hid hbl2
  have hGs : wA.heap.size < (wA.alloc (.cells #[.slice a3 len3 cap3, .slice A N cA, .slice none 0 0] 27)).heap.size := by simp
  clear hbl2
  generalize wA.alloc (.cells #[.slice a3 len3 cap3, .slice A N cA, .slice none 0 0] 27) = wB at *
  generalize wA.heap.size = G at *
  go_loopw [11] (fun i wr => ∃ k : Nat, k ≤ 3 ∧ i = .int .i64 k ∧ T3 G wr ∧ Below w.heap.size w wr ∧ G < wr.heap.size) (fun i _ => 3 - (intOf i).toNat)
  case atStart => exact ⟨0, by omega, rfl, HT3.out, HBL2.out, hGs⟩
  case round =>
    obtain ⟨k, hk, rfl, ht, hbl, hG⟩ := hrel
    have HT := Lib.hid ht
    have HB := Lib.hid hbl
    clear ht hbl
    by_cases hlt : k < 3
    · obtain ⟨A1, n, c, bs, hcell, hby, hnc⟩ := HT.out k hlt
      have hmx := hby.2.2.1
      have HBY1 := Lib.hid hby
      clear hby
      have hk0 : (0 : Int) ≤ (k : Int) := Int.natCast_nonneg _
      have hk1 : (k : Int) < 3 := by omega
      by_cases hn : n ≤ 4000
      · have hn0 : (n : Int) ≤ 4000 := by omega
        have hbr : Below wr.heap.size wr wr := Below.refl _ _
        have hbd : Below wr.heap.size wr wr.drew := hbr.drew
        have hof := fun key kind W (h : Below wr.heap.size wr W) => of_any key kind A1 n c bs W (HBY1.out.below h) hnc
        have hrf := fun key kind W (h : Below wr.heap.size wr W) => refof_any key kind A1 n c bs W (HBY1.out.below h) (by omega)
        have HOF := Lib.hid hof
        have HRF := Lib.hid hrf
        clear hof hrf
        go_wp2_with fail
        go_region_held3 (fun w' => w'.cell? ⟨G, k, none⟩ = some (.slice A1 n c) ∧ Below wr.heap.size wr w')
          (first | exact ⟨hcell, hbr⟩ | exact ⟨hcell, hbd⟩ | exact keepS hb2 hcell hbr hG | exact keepS hb2 hcell hbd hG | (go_split_ands; exact keepS hb2 (by assumption) (by assumption) hG) | assumption | (go_split_ands; exact ⟨by assumption, by assumption⟩))
          (first
            | (go_at_call 26; refine (HOF.out _ _ _ ?_).mono ?_; (first | assumption | (go_split_ands; assumption)); rintro e w2 ⟨rfl, hb2⟩)
            | (go_at_call 27; refine (HRF.out _ _ _ ?_).mono ?_; (first | assumption | (go_split_ands; assumption)); rintro e w2 ⟨rfl, rfl⟩))
        go_split_ands
        have hbw : Below wr.heap.size wr w2 := by assumption
        have HBW := Lib.hid hbw
        clear hbw
        go_wp2_with fail
        exact ⟨⟨k + 1, by omega, by go_num, HT.out.below hG HBW.out, HB.out.trans (HBW.out.mono HB.out.size), Nat.lt_of_lt_of_le hG HBW.out.size⟩, by simp [intOf]; omega⟩
      · have hn0 : (4001 : Int) ≤ (n : Int) := by omega
        go_wp2_with fail
        exact ⟨⟨k + 1, by omega, by go_num, HT.out, HB.out, hG⟩, by simp [intOf]; omega⟩
    · obtain rfl : k = 3 := by omega
      go_wp2_with (first
        | (go_at_call 28; refine (HMX.out _ _).mono ?_; rintro e w6 ⟨rfl, rfl⟩)
        | (go_at_call 29; refine (HRX.out _ _).mono ?_; rintro e w6 ⟨rfl, rfl⟩)
        | (go_at_call 30; refine (HAW.out _).mono ?_; rintro e w7 ⟨rfl, hb7⟩; have HB7 := Lib.hid hb7; clear hb7))
      go_ret
      exact ⟨rfl, HB.out.trans (HB7.out.mono HB.out.size)⟩

/-! ### THE ROW's STEP: WRITTEN OUT: LEAVE IT -/
set_option maxRecDepth 100000 in
theorem lifted (os : Os) (started : os.Started) (H : Type) (enc : TypeId × Value → H) :
    ReturnsInHanded {} Try.checked os 8 .any (Rows.fingerprintOfSpec.pre6 enc Try.prog Try.f8 Rows.fingerprintOfRow.domain false) (Rows.fingerprintOfSpec.post enc Try.prog Try.f8 false true false false) := by
  refine returnsInHanded_of_change (C := Try.checked) own started (by kernel_rfl) Try.func8
    (ChangeSpec.witness6 (enc := enc) (C := Try.checked) false ⟨#[], #[.slice none 0 0, .int .u64 0, .int .i64 0, .slice none 0 0], []⟩ 8 (by kernel_rfl) (by kernel_rfl) (by kernel_rfl) (by kernel_rfl)) ?_
  intro W base args ds gs before hval0 hW hcnd _
  have hval : ∀ (j : Nat) t v, Try.f8.params[j]? = some t → args[j]? = some v → Value.okWide Try.prog W .any base t v := hval0
  have hW' := hW
  obtain ⟨p, q, hA0, hV, rfl, hfz, hnd⟩ := hW
  have hA : DataW.TrodAll enc Try.prog W 0 (fun _ => true) true Try.f8.params.toList args.toList ds p := hA0
  rw [Try.params8] at hA hval
  obtain ⟨v0, vs0, d0, ds0, p0, q0, hargs, rfl, rfl, h0, r0⟩ := trodAll_cons hA
  obtain ⟨v1, vs1, d1, ds1, p1, q1, rfl, rfl, rfl, h1, r1⟩ := trodAll_cons r0
  obtain ⟨v2, vs2, d2, ds2, p2, q2, rfl, rfl, rfl, h2, r2⟩ := trodAll_cons r1
  obtain ⟨v3, vs3, d3, ds3, p3, q3, rfl, rfl, rfl, h3, r3⟩ := trodAll_cons r2
  obtain ⟨rfl, rfl, rfl⟩ := trodAll_nil r3
  obtain rfl : args = #[v0, v1, v2, v3] := by cases args; simp_all
  obtain ⟨rfl, rfl⟩ := trodVars_none hV
  obtain ⟨a0, len0, cap0, rfl⟩ := okWide_slice Try.underlying23 (hval 0 23 v0 rfl rfl)
  have k0 := h0
  have lt0 : ∀ x ∈ p0, x.block < W.heap.size := by obtain ⟨m, hm⟩ := k0; exact DataW.trod_lt m _ _ _ hm
  obtain ⟨z0, w0⟩ : ∃ zs, IsRow .i64 W a0 len0 cap0 zs := by
    obtain ⟨fuel, hf⟩ := h0
    rcases open_ints Try.underlying23 Try.underlying3 (by kernel_rfl) hf with ⟨hcs, _⟩ | ⟨x, l, c, zs, hcs, _, hl, hm, hz, _, hcell, hwz⟩
    · simp [Value.cells] at hcs
      obtain ⟨rfl, rfl, rfl⟩ := hcs
      exact ⟨[], .inl ⟨rfl, rfl, rfl, rfl⟩⟩
    · simp [Value.cells] at hcs
      obtain ⟨rfl, rfl, rfl⟩ := hcs
      exact ⟨zs, .inr ⟨_, rfl, hl, hm, by simpa using hz, hcell, hwz⟩⟩
  obtain ⟨a1, rfl, rfl, rfl, w1⟩ := open_int Try.underlying40 (hval 1 40 v1 rfl rfl) h1
  obtain ⟨a2, rfl, rfl, rfl, w2⟩ := open_int Try.underlying3 (hval 2 3 v2 rfl rfl) h2
  obtain ⟨a3, len3, cap3, rfl⟩ := okWide_slice Try.underlying27 (hval 3 27 v3 rfl rfl)
  have k3 := h3
  have lt3 : ∀ x ∈ p3, x.block < W.heap.size := by obtain ⟨m, hm⟩ := k3; exact DataW.trod_lt m _ _ _ hm
  obtain ⟨z3, w3⟩ : ∃ zs, IsRow .u8 W a3 len3 cap3 zs := by
    obtain ⟨fuel, hf⟩ := h3
    rcases open_ints Try.underlying27 Try.underlying5 (by kernel_rfl) hf with ⟨hcs, _⟩ | ⟨x, l, c, zs, hcs, _, hl, hm, hz, _, hcell, hwz⟩
    · simp [Value.cells] at hcs
      obtain ⟨rfl, rfl, rfl⟩ := hcs
      exact ⟨[], .inl ⟨rfl, rfl, rfl, rfl⟩⟩
    · simp [Value.cells] at hcs
      obtain ⟨rfl, rfl, rfl⟩ := hcs
      exact ⟨zs, .inr ⟨_, rfl, hl, hm, by simpa using hz, hcell, hwz⟩⟩
  clear hA0 hval0
  refine (walk a0 len0 cap0 z0 a1 a2 a3 len3 cap3 z3 W w0 w1 w2 w3).mono fun e W' ⟨he, bel⟩ => ?_
  subst he
  exact ⟨_, rfl, _, _, _, [], _, [], hW', trodAll_mk1 (shut_bool Try.underlying4 _), (trodAll_cons_mk (Below.trod laidOut (by kernel_rfl) (of_decide_eq_true (by kernel_rfl)) k0 bel lt0) (trodAll_cons_mk (shut_int Try.underlying40 w1) (trodAll_cons_mk (shut_int Try.underlying3 w2) (trodAll_cons_mk (Below.trod laidOut (by kernel_rfl) (of_decide_eq_true (by kernel_rfl)) k3 bel lt3) trodAll_mk0)))), rfl, bel.frame _, fun h => by cases h⟩

theorem over : Rows.fingerprintOfRow.holds Try.pinned (OpenSpec.ofChange Rows.fingerprintOfSpec) :=
  OpenClaim.holds_of_wide 8 Try.f8 rfl rfl rfl rfl rfl rfl rfl ⟨rfl, rfl, rfl, rfl, rfl⟩ rfl rfl rfl rfl rfl (by kernel_rfl) Try.func8 (by kernel_rfl)
    (of_decide_eq_true (by kernel_rfl)) (by unfold Func.isWrapper; first | (rw [if_pos (by decide +kernel)]; kernel_rfl) | (rw [if_neg (by decide +kernel)]; exact ⟨rfl, rfl⟩))
    (fun os started H enc _ => lifted os started H enc)

/-- ████ THE STATEMENT ████ -/
theorem proved : Rows.FingerprintOfSaid := over
#print axioms proved
end Go.Proofs.Ytidpkkekoldkgaa.fingerprintOf
