/- For every tape and byte slice, EntropyMeasures returns true: counts, measures, distinct bytes and means answer as their specifications. No condition. -/
import Derived.Test.YtidpkkekoldkgaaFrame
import Derived.Test.YtidpkkekoldkgaaEntEq
import Derived.Test.YtidpkkekoldkgaaEntAwake
namespace Go.Proofs.Ytidpkkekoldkgaa.entropyMeasures
open Go.ChangeShapes Go.WideShapes Go.ChangeAt Go.RowKit
open Go.ChangeMaps (open_string shut_string)
open Go.Proofs.Ytidpkkekoldkgaa.Tp Go.Proofs.Ytidpkkekoldkgaa.Ent
set_option linter.unusedVariables false

theorem row_cap {k : IntKind} {w : World} {a : Option Addr} {len cap : Nat} {zs : List Int} (h : IsRow k w a len cap zs) : len ≤ cap := by
  rcases h with ⟨rfl, rfl, rfl, rfl⟩ | ⟨x, rfl, hl, _⟩
  · exact Nat.le_refl _
  · exact hl

theorem own_cap {w : World} {base n c : Nat} {A : Option Addr} {xs : List Value} (h : w.ownsRow base 5 1 (.slice A n c) n xs) : n ≤ c := by
  rcases h.2 with ⟨e, h0⟩ | ⟨g, cap, cur, e, _, _, hx⟩
  · omega
  · injection e with e1 e2 e3
    omega

/-- The three slices that the law's loop goes over. -/
def T3 (G : Nat) (wr : World) : Prop := ∀ k, k < 3 → ∃ (A : Option Addr) (n c : Nat) (bs : List Nat), wr.cell? ⟨G, k, none⟩ = some (.slice A n c) ∧ Bytes wr A n bs ∧ n ≤ c

theorem T3.below {G : Nat} {w w' : World} (h : T3 G w) (hG : G < w.heap.size) (hb : Below w.heap.size w w') : T3 G w' := by
  intro k hk
  obtain ⟨A, n, c, bs, h1, h2, h3⟩ := h k hk
  exact ⟨A, n, c, bs, (hb.cell (p := ⟨G, k, none⟩) hG).trans h1, h2.below hb, h3⟩

theorem bytes_nil (w : World) : Bytes w none 0 [] := ⟨rfl, by simp, by omega, fun h => absurd h (by omega)⟩

theorem t3_new {w : World} {A B : Option Addr} {n c m d : Nat} {xs ys : List Nat} (hx : Bytes w A n xs) (hy : Bytes w B m ys) (hc : n ≤ c) (hd : m ≤ d) : T3 w.heap.size (w.alloc (.cells #[.slice A n c, .slice B m d, .slice none 0 0] 27)) := by
  intro k hk
  have hb : Below w.heap.size w (w.alloc (.cells #[.slice A n c, .slice B m d, .slice none 0 0] 27)) := (Below.refl _ _).alloc (Nat.le_refl _) _
  rw [cell_of_row _ _ _ _ _ _ (heap_alloc_new _ _)]
  rcases (by omega : k = 0 ∨ k = 1 ∨ k = 2) with rfl | rfl | rfl
  · exact ⟨A, n, c, xs, rfl, hx.below hb, hc⟩
  · exact ⟨B, m, d, ys, rfl, hy.below hb, hd⟩
  · exact ⟨none, 0, 0, [], rfl, bytes_nil _, Nat.le_refl _⟩

theorem keepS {G k : Nat} {wr W W2 : World} {v : Option Value} (hb : Below W.heap.size W W2) (h1 : W.cell? ⟨G, k, none⟩ = v) (h2 : Below wr.heap.size wr W) (hG : G < wr.heap.size) : W2.cell? ⟨G, k, none⟩ = v ∧ Below wr.heap.size wr W2 :=
  ⟨(hb.cell (p := ⟨G, k, none⟩) (Nat.lt_of_lt_of_le hG h2.size)).trans h1, h2.trans (hb.mono h2.size)⟩

set_option maxRecDepth 100000 in
set_option maxHeartbeats 4000000 in
theorem walk (a0 : Option Addr) (len0 cap0 : Nat) (z0 : List Int) (a1 : Option Addr) (len1 cap1 : Nat) (z1 : List Int) (w : World) (w0 : IsRow .i64 w a0 len0 cap0 z0) (w1 : IsRow .u8 w a1 len1 cap1 z1) :
    Calls Try.prog 4 #[.slice a0 len0 cap0, .slice a1 len1 cap1] w fun e w' => e = .returned (.bool true) ∧ Below w.heap.size w w' := by
  have htp := tape_new w0
  have hc3 := row_cap w1
  obtain ⟨xs, hxs⟩ := bytes_in w1
  have hm3 := hxs.2.2.1
  clear w0 w1
  have HTP := Lib.hid htp
  have HX := Lib.hid hxs
  have HAW := Lib.hid awake_any
  clear htp hxs
  go_enter Try.func4, Try.ntmps4
  go_wp2_with (first
    | (go_at_call 17; refine (next_any w.heap.size 40 _ HTP.out (by omega) (by omega)).mono ?_; rintro e wT ⟨r, hr0, hr1, rfl, hgT, htT⟩; obtain ⟨N, rfl⟩ : ∃ N : Nat, r = (N : Int) := ⟨r.toNat, by omega⟩; have HGT := Lib.hid hgT; have HTT := Lib.hid htT; clear hgT htT))
  have hszT := HGT.out.size
  simp at hszT
  have hN : N ≤ 39 := by omega
  clear hr0 hr1
  refine (bytes_any w.heap.size N _ HTT.out (by omega) (by omega)).mono ?_
  rintro e wA ⟨vA, rfl, bsA, hlA, hbA, hrowA, hgA, htA⟩
  have hszA := hgA.size
  obtain ⟨A, cA, rfl, _⟩ := row_form hrowA
  have hcA := own_cap hrowA
  have hbl : Below w.heap.size w wA := (((Below.refl _ w).alloc (Nat.le_refl _) _).grown HGT.out (by simp) (fun k e => by cases e; omega)).grown hgA (by omega) (fun k e => by cases e; omega)
  have byA := bytes_of_row hrowA hbA (by omega)
  have HBL := Lib.hid hbl
  have HBY := Lib.hid byA
  have HXA := Lib.hid (HX.out.below hbl)
  clear hlA hbA hrowA hgA htA hbl byA HTP HTT HGT HX
  have ht3 := t3_new HXA.out HBY.out hc3 hcA
  have HT3 := Lib.hid ht3
  clear ht3
  go_wp2_with fail
  have hbl2 : Below w.heap.size w (wA.alloc (.cells #[.slice a1 len1 cap1, .slice A N cA, .slice none 0 0] 27)) := HBL.out.alloc HBL.out.size _
  have HBL2 := Lib.hid hbl2
  have hGs : wA.heap.size < (wA.alloc (.cells #[.slice a1 len1 cap1, .slice A N cA, .slice none 0 0] 27)).heap.size := by simp
  clear hbl2
  generalize wA.alloc (.cells #[.slice a1 len1 cap1, .slice A N cA, .slice none 0 0] 27) = wB at *
  generalize wA.heap.size = G at *
  go_loopw [7, 8] (fun i _ wr => ∃ k : Nat, k ≤ 3 ∧ i = .int .i64 k ∧ T3 G wr ∧ Below w.heap.size w wr ∧ G < wr.heap.size) (fun i _ _ => 3 - (intOf i).toNat)
  case atStart => exact ⟨0, by omega, rfl, HT3.out, HBL2.out, hGs⟩
  case round =>
    obtain ⟨k, hk, rfl, ht, hbl, hG⟩ := hrel
    have HT := Lib.hid ht
    have HB := Lib.hid hbl
    clear ht hbl
    by_cases hlt : k < 3
    · obtain ⟨A1, n, c, bs, hcell, hby, hnc⟩ := HT.out k hlt
      have hmx := hby.2.2.1
      have HBY1 := Lib.hid hby
      have hlen := hby.1
      clear hby
      have hk0 : (0 : Int) ≤ (k : Int) := Int.natCast_nonneg _
      have hk1 : (k : Int) < 3 := by omega
      by_cases hn : n ≤ 4000
      · have hn0 : (n : Int) ≤ 4000 := by omega
        have hfew := few_id (bs := bs) (by omega)
        have c18 := fun W (h : Below wr.heap.size wr W) => counts_some A1 n c bs W (HBY1.out.below h) (by omega)
        have c19 := fun W (h : Below wr.heap.size wr W) => refcounts_some A1 n c bs W (HBY1.out.below h) (by omega)
        have c20 := fun W (h : Below wr.heap.size wr W) => measure_any A1 n c bs W (HBY1.out.below h)
        have c21 := fun W (h : Below wr.heap.size wr W) => refmeasure_any A1 n c bs W (HBY1.out.below h) (by omega)
        have c22 := fun W (h : Below wr.heap.size wr W) => distinct_any A1 n c bs W (HBY1.out.below h)
        have c23 := fun W (h : Below wr.heap.size wr W) => refdistinct_any A1 n c bs W (HBY1.out.below h) (by omega)
        have c24 := fun W (h : Below wr.heap.size wr W) => mean_any A1 n c bs W (HBY1.out.below h) (by omega)
        have c25 := fun W (h : Below wr.heap.size wr W) => refmean_any A1 n c bs W (HBY1.out.below h) (by omega)
        rw [hfew] at c20 c22
        have C18 := Lib.hid c18
        have C19 := Lib.hid c19
        have C20 := Lib.hid c20
        have C21 := Lib.hid c21
        have C22 := Lib.hid c22
        have C23 := Lib.hid c23
        have C24 := Lib.hid c24
        have C25 := Lib.hid c25
        clear c18 c19 c20 c21 c22 c23 c24 c25 hfew hlen
        have heq : ∀ w, (Op.equalIn 10000 33 (.agg (tab bs)) (.agg (tab bs))).run Try.prog w = .ok true w := eq_tab bs
        generalize tab bs = TB at *
        generalize ms bs (lgI n) 256 = MS at *
        generalize ds bs 256 = DS at *
        generalize meanI bs n = ME at *
        have hb0 : Below wr.heap.size wr wr := Below.refl _ _
        have B0 := Lib.hid hb0
        clear hb0
        go_wp2_with (first
          | (go_at_call 18; refine (C18.out _ B0.out).mono ?_; clear C18; rintro e w1 ⟨rfl, hb⟩; have B1 := Lib.hid (B0.out.trans (hb.mono B0.out.size)); clear hb)
          | (go_at_call 19; refine (C19.out _ B1.out).mono ?_; clear C19; rintro e w2 ⟨rfl, hb⟩; have B2 := Lib.hid (B1.out.trans (hb.mono B1.out.size)); clear hb)
          | (go_at_call 20; refine (C20.out _ B2.out).mono ?_; clear C20; rintro e w3 ⟨rfl, hb⟩; have B3 := Lib.hid (B2.out.trans (hb.mono B2.out.size)); clear hb)
          | (go_at_call 21; refine (C21.out _ B3.out).mono ?_; clear C21; rintro e w4 ⟨rfl, hb⟩; have B4 := Lib.hid (B3.out.trans (hb.mono B3.out.size)); clear hb)
          | (go_at_call 22; refine (C22.out _ B4.out).mono ?_; clear C22; rintro e w5 ⟨rfl, hb⟩; have B5 := Lib.hid (B4.out.trans (hb.mono B4.out.size)); clear hb)
          | (go_at_call 23; refine (C23.out _ B5.out).mono ?_; clear C23; rintro e w6 ⟨rfl, hb⟩; have B6 := Lib.hid (B5.out.trans (hb.mono B5.out.size)); clear hb)
          | (go_at_call 24; refine (C24.out _ B6.out).mono ?_; clear C24; rintro e w7 ⟨rfl, hb⟩; have B7 := Lib.hid (B6.out.trans (hb.mono B6.out.size)); clear hb)
          | (go_at_call 25; refine (C25.out _ B7.out).mono ?_; clear C25; rintro e w8 ⟨rfl, hb⟩; have B8 := Lib.hid (B7.out.trans (hb.mono B7.out.size)); clear hb))
        exact ⟨⟨k + 1, by omega, by go_num, HT.out.below hG B8.out, HB.out.trans (B8.out.mono HB.out.size), Nat.lt_of_lt_of_le hG B8.out.size⟩, by simp [intOf]; omega⟩
      · have hn0 : (4001 : Int) ≤ (n : Int) := by omega
        go_wp2_with fail
        exact ⟨⟨k + 1, by omega, by go_num, HT.out, HB.out, hG⟩, by simp [intOf]; omega⟩
    · obtain rfl : k = 3 := by omega
      go_wp2_with (first
        | (go_at_call 15; refine (HAW.out _).mono ?_; rintro e w7 ⟨rfl, hb7⟩; have HB7 := Lib.hid hb7; clear hb7))
      go_ret
      exact ⟨rfl, HB.out.trans (HB7.out.mono HB.out.size)⟩

/-! ### THE ROW's STEP: WRITTEN OUT: LEAVE IT -/
set_option maxRecDepth 100000 in
theorem lifted (os : Os) (started : os.Started) (H : Type) (enc : TypeId × Value → H) :
    ReturnsInHanded {} Try.checked os 4 .any (Rows.entropyMeasuresSpec.pre6 enc Try.prog Try.f4 Rows.entropyMeasuresRow.domain false) (Rows.entropyMeasuresSpec.post enc Try.prog Try.f4 false true false false) := by
  refine returnsInHanded_of_change (C := Try.checked) own started (by kernel_rfl) Try.func4
    (ChangeSpec.witness6 (enc := enc) (C := Try.checked) false ⟨#[], #[.slice none 0 0, .slice none 0 0], []⟩ 8 (by kernel_rfl) (by kernel_rfl) (by kernel_rfl) (by kernel_rfl)) ?_
  intro W base args ds gs before hval0 hW hcnd _
  have hval : ∀ (j : Nat) t v, Try.f4.params[j]? = some t → args[j]? = some v → Value.okWide Try.prog W .any base t v := hval0
  have hW' := hW
  obtain ⟨p, q, hA0, hV, rfl, hfz, hnd⟩ := hW
  have hA : DataW.TrodAll enc Try.prog W 0 (fun _ => true) true Try.f4.params.toList args.toList ds p := hA0
  rw [Try.params4] at hA hval
  obtain ⟨v0, vs0, d0, ds0, p0, q0, hargs, rfl, rfl, h0, r0⟩ := trodAll_cons hA
  obtain ⟨v1, vs1, d1, ds1, p1, q1, rfl, rfl, rfl, h1, r1⟩ := trodAll_cons r0
  obtain ⟨rfl, rfl, rfl⟩ := trodAll_nil r1
  obtain rfl : args = #[v0, v1] := by cases args; simp_all
  obtain ⟨rfl, rfl⟩ := trodVars_none hV
  obtain ⟨a0, len0, cap0, rfl⟩ := okWide_slice Try.underlying23 (hval 0 23 v0 rfl rfl)
  have k0 := h0
  have lt0 : ∀ x ∈ p0, x.block < W.heap.size := by obtain ⟨m, hm⟩ := k0; exact DataW.trod_lt m _ _ _ hm
  obtain ⟨z0, w0⟩ : ∃ zs, IsRow .i64 W a0 len0 cap0 zs := by
    obtain ⟨fuel, hf⟩ := h0
    rcases open_ints Try.underlying23 Try.underlying3 (by kernel_rfl) hf with ⟨hcs, _⟩ | ⟨x, l, c, zs, hcs, _, hl, hm, hz, _, hcell, hwz⟩
    · simp [Value.cells] at hcs
      obtain ⟨rfl, rfl, rfl⟩ := hcs
      exact ⟨[], .inl ⟨rfl, rfl, rfl, rfl⟩⟩
    · simp [Value.cells] at hcs
      obtain ⟨rfl, rfl, rfl⟩ := hcs
      exact ⟨zs, .inr ⟨_, rfl, hl, hm, by simpa using hz, hcell, hwz⟩⟩
  obtain ⟨a1, len1, cap1, rfl⟩ := okWide_slice Try.underlying27 (hval 1 27 v1 rfl rfl)
  have k1 := h1
  have lt1 : ∀ x ∈ p1, x.block < W.heap.size := by obtain ⟨m, hm⟩ := k1; exact DataW.trod_lt m _ _ _ hm
  obtain ⟨z1, w1⟩ : ∃ zs, IsRow .u8 W a1 len1 cap1 zs := by
    obtain ⟨fuel, hf⟩ := h1
    rcases open_ints Try.underlying27 Try.underlying5 (by kernel_rfl) hf with ⟨hcs, _⟩ | ⟨x, l, c, zs, hcs, _, hl, hm, hz, _, hcell, hwz⟩
    · simp [Value.cells] at hcs
      obtain ⟨rfl, rfl, rfl⟩ := hcs
      exact ⟨[], .inl ⟨rfl, rfl, rfl, rfl⟩⟩
    · simp [Value.cells] at hcs
      obtain ⟨rfl, rfl, rfl⟩ := hcs
      exact ⟨zs, .inr ⟨_, rfl, hl, hm, by simpa using hz, hcell, hwz⟩⟩
  clear hA0 hval0
  refine (walk a0 len0 cap0 z0 a1 len1 cap1 z1 W w0 w1).mono fun e W' ⟨he, bel⟩ => ?_
  subst he
  exact ⟨_, rfl, _, _, _, [], _, [], hW', trodAll_mk1 (shut_bool Try.underlying4 _), (trodAll_cons_mk (Below.trod laidOut (by kernel_rfl) (of_decide_eq_true (by kernel_rfl)) k0 bel lt0) (trodAll_cons_mk (Below.trod laidOut (by kernel_rfl) (of_decide_eq_true (by kernel_rfl)) k1 bel lt1) trodAll_mk0)), rfl, bel.frame _, fun h => by cases h⟩

theorem over : Rows.entropyMeasuresRow.holds Try.pinned (OpenSpec.ofChange Rows.entropyMeasuresSpec) :=
  OpenClaim.holds_of_wide 4 Try.f4 rfl rfl rfl rfl rfl rfl rfl ⟨rfl, rfl, rfl, rfl, rfl⟩ rfl rfl rfl rfl rfl (by kernel_rfl) Try.func4 (by kernel_rfl)
    (of_decide_eq_true (by kernel_rfl)) (by unfold Func.isWrapper; first | (rw [if_pos (by decide +kernel)]; kernel_rfl) | (rw [if_neg (by decide +kernel)]; exact ⟨rfl, rfl⟩))
    (fun os started H enc _ => lifted os started H enc)

/-- ████ THE STATEMENT ████ -/
theorem proved : Rows.EntropyMeasuresSaid := over
#print axioms proved
end Go.Proofs.Ytidpkkekoldkgaa.entropyMeasures
