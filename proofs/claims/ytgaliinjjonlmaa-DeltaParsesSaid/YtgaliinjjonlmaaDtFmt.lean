import Derived.Test.YtgaliinjjonlmaaDtFn
namespace Go.Proofs.Ytgaliinjjonlmaa.Dt
open Go.RowKit
open Go.Proofs.Ytgaliinjjonlmaa.Tp
set_option linter.unusedVariables false

/-- The bytes of an operation, and of the first n. -/
def fmo (o : O) : List Nat := if 1 ≤ o.s then [1] ++ num o.f ++ num o.s else [0] ++ num o.d.length ++ o.d
def fmt (os : List O) : Nat → List Nat
  | 0 => []
  | n + 1 => fmt os n ++ fmo (os.getD n o0)

theorem num_len (n : Nat) : (num n).length = 3 := rfl

set_option maxRecDepth 100000 in
set_option maxHeartbeats 4000000 in
theorem format_any (A : Option Addr) (n c N : Nat) (os : List O) (vs : List Value) (w : World) (h : OLies w A n os vs) (hv : ∀ j, j < n → VO N (os.getD j o0) (vs.getD j undef)) (hs : ∀ j, j < n → sml (os.getD j o0)) (ht : ∀ i, i ≤ n → (fmt os i).length ≤ 50000) (hn : n ≤ 200) :
    Calls Try.prog 27 #[.slice A n c] w (ARes w (fmt os n)) := by
  have HCL := Lib.hid (contains_large A n c os vs w h hs (by omega))
  have HCB := Lib.hid (fun w' (hw : Below w.heap.size w w') => contains_bad A n c N os vs w' (h.below hw) hv (by omega))
  have HLI := Lib.hid (fun w' (hw : Below w.heap.size w w') => h.below hw)
  have HV := Lib.hid hv
  have HS := Lib.hid hs
  have HT := Lib.hid ht
  clear h hv hs ht
  go_enter Try.func27, Try.ntmps27
  go_wp2_with (first
    | (go_at_call 54; refine HCL.out.mono ?_; rintro e w1 ⟨rfl, hb1⟩; have HB1 := Lib.hid hb1; clear hb1)
    | (go_at_call 54; refine (HCB.out _ HB1.out).mono ?_; rintro e w2 ⟨rfl, hb2⟩; have HB2 := Lib.hid (HB1.out.trans (hb2.mono HB1.out.size)); have HB3 := Lib.hid (HB2.out.trans ((box_below w2 (.cells #[.slice none 0 0] 23)).mono HB2.out.size)); clear hb2))
  generalize hG : w2.heap.size = G at *
  have H0 : Fpr w G [] (.slice none 0 0) (w2.alloc (.cells #[.slice none 0 0] 23)) := ⟨by rw [← hG]; exact heap_alloc_new _ _, World.ownsRow_nil _ _ _ _, HB3.out, by rw [← hG]; exact HB2.out.size⟩
  have HF0 := Lib.hid H0
  clear H0
  go_loopw [22] (fun ii wr => ∃ (i : Nat) (v : Value), i ≤ n ∧ ii = .int .i64 i ∧ Fpr w G (fmt os i) v wr) (fun ii _ => n - (intOf ii).toNat)
  case atStart => exact ⟨0, _, by omega, rfl, HF0.out⟩
  case round =>
    obtain ⟨i, v, hi, rfl, hfp⟩ := hrel
    by_cases hlt : i < n
    · have HFP := Lib.hid hfp
      obtain ⟨b, off, rfl, hbk, hc⟩ := (HLI.out _ hfp.bl).mem (by omega)
      obtain ⟨c0, c1, c2⟩ := hc i hlt
      have hvo := HV.out i hlt
      have hsm := HS.out i hlt
      have hby := fun w' hw => (HLI.out w' hw).by_ i hlt
      have ht1 := HT.out i hi
      have ht2 := HT.out (i + 1) hlt
      have e1 : fmt os (i + 1) = fmt os i ++ fmo (os.getD i o0) := rfl
      clear hc hfp hbk
      obtain ⟨⟨F, S, d⟩, ho⟩ : ∃ o, os.getD i o0 = o := ⟨_, rfl⟩
      obtain ⟨dv, hdv⟩ : ∃ v, vs.getD i undef = v := ⟨_, rfl⟩
      rw [ho] at c0 c1 hvo hby hsm e1
      rw [hdv] at c2 hvo hby
      rw [e1, List.length_append] at ht2
      have HD := Lib.hid hby
      obtain ⟨s1, s2, s3⟩ := hsm
      clear hby ho hdv
      rcases hvo with ⟨h2, h3, X, k, cc, rfl, hk⟩ | ⟨hS, rfl, h3, h4⟩
      · simp only at h2 h3
        subst h2
        subst h3
        have hkd : d.length = k := by
          obtain ⟨A', c', e⟩ := (HD.out _ HFP.out.bl).form
          cases e
          rfl
        subst hkd
        have ef : fmo ⟨0, 0, d⟩ = [0] ++ num d.length ++ d := if_neg (by simp)
        rw [ef] at e1 ht2
        simp only [List.length_append, num_len, List.length_singleton] at ht2
        have HE := Lib.hid e1
        have HAB := Lib.hid (HFP.out.box (.cells #[.int .i64 0, .int .i64 0, .slice X d.length cc] 54))
        have hne : wr.heap.size ≠ G := by have := lt_of_block HFP.out.hv; omega
        have HNE := Lib.hid hne
        clear e1 ef hne
        generalize fmt os i = xs at *
        rw [show ((0 : Nat) : Int) = 0 from rfl] at c0 c1
        go_wp2_with (first
          | (go_at_call 53; refine (cpy_no X d.length cc _).mono ?_; rintro e w3 ⟨rfl, hb3⟩; have f3 := HAB.out.below hb3; have x3 := (hb3.block wr.heap.size (by simp)).trans (heap_alloc_new wr (.cells #[.int .i64 0, .int .i64 0, .slice X d.length cc] 54)); have g3 := cell_of_one f3.hv; obtain ⟨d0, d1, d2⟩ := opCells _ _ _ _ _ _ _ x3; have HF3 := Lib.hid f3; have HX3 := Lib.hid x3; clear hb3 f3 x3)
          | (at_builtin; refine append_by rfl (.tmp 39) (.tmp 40) rfl w.heap.size v _ xs.length xs [0] rfl rfl (HF3.out.box (.cells #[.int .u8 0] 5)).row (by_lit (w := w3) (bs := [0]) (cs := #[.int .u8 0]) (by simp) (by simp [u8s]) (by simp)) (by simp; omega) (HF3.out.box (.cells #[.int .u8 0] 5)).bl.size ?_; intro v4 w4 own4 gr4; obtain ⟨A4, k4, c4, rfl⟩ := own_slice own4; have F4 := HF3.out.box (.cells #[.int .u8 0] 5); have hg4 := F4.grown gr4 (by decide) F4.hv; have q0 := cell_of_one hg4; have q1 := free_of_one hg4; have f4 := F4.store gr4 own4; have x4 := F4.keep (v1 := .slice A4 k4 c4) gr4 (by decide) HNE.out (((box_below w3 _).block wr.heap.size (lt_of_block HX3.out)).trans HX3.out); clear d0 d1 d2 g3; obtain ⟨d0, d1, d2⟩ := opCells _ _ _ _ _ _ _ x4; have HF4 := Lib.hid f4; have HX4 := Lib.hid x4; clear own4 gr4 F4 hg4 f4 x4))
        have l5 : (xs ++ [0]).length ≤ 60000 := (by simp only [List.length_append, List.length_singleton]; omega)
        have hh5 := number_any G d.length (xs ++ [0]) (.slice A4 k4 c4) w _ HF4.out (Nat.le_trans s3 (by decide)) l5
        refine hh5.mono ?_
        clear hh5
        rintro e w5 ⟨rfl, ⟨v5, f5⟩, hs5, hk5⟩
        have x5 := hk5 _ _ HNE.out HX4.out
        clear d0 d1 d2 hk5
        obtain ⟨d0, d1, d2⟩ := opCells _ _ _ _ _ _ _ x5
        have g5 := cell_of_one f5.hv
        have HF5 := Lib.hid f5
        have HX5 := Lib.hid x5
        clear f5 x5
        go_wp2_with (at_builtin; refine append_by rfl (.tmp 47) (.tmp 49) rfl w.heap.size v5 _ (xs ++ [0] ++ num d.length).length (xs ++ [0] ++ num d.length) d rfl rfl HF5.out.row (HD.out _ HF5.out.bl) (by simp [num_len]; omega) HF5.out.bl.size ?_; intro v6 w6 own6 gr6; obtain ⟨A6, k6, c6, rfl⟩ := own_slice own6; have hg6 := HF5.out.grown gr6 (by decide) HF5.out.hv; have r0 := cell_of_one hg6; have r1 := free_of_one hg6; have f6 := HF5.out.store gr6 own6; have HF6 := Lib.hid f6; clear own6 gr6 hg6 f6)
        exact ⟨⟨i + 1, _, by omega, by go_num, by rw [HE.out]; have := HF6.out; simpa [List.append_assoc] using this⟩, by simp [intOf]; omega⟩
      · simp only at hS h3 h4 s1 s2
        have ef : fmo ⟨F, S, d⟩ = [1] ++ num F ++ num S := if_pos hS
        rw [ef] at e1 ht2
        simp only [List.length_append, num_len, List.length_singleton] at ht2
        have HE := Lib.hid e1
        have HAB := Lib.hid (HFP.out.box (.cells #[.int .i64 (F : Int), .int .i64 (S : Int), .slice none 0 0] 54))
        have hne : wr.heap.size ≠ G := by have := lt_of_block HFP.out.hv; omega
        have HNE := Lib.hid hne
        clear e1 ef hne
        generalize fmt os i = xs at *
        go_wp2_with (first
          | (go_at_call 53; refine (cpy_yes F S _ hS).mono ?_; rintro e w3 ⟨rfl, hb3⟩; have f3 := HAB.out.below hb3; have x3 := (hb3.block wr.heap.size (by simp)).trans (heap_alloc_new wr (.cells #[.int .i64 (F : Int), .int .i64 (S : Int), .slice none 0 0] 54)); have g3 := cell_of_one f3.hv; obtain ⟨d0, d1, d2⟩ := opCells _ _ _ _ _ _ _ x3; have HF3 := Lib.hid f3; have HX3 := Lib.hid x3; clear hb3 f3 x3)
          | (at_builtin; refine append_by rfl (.tmp 28) (.tmp 29) rfl w.heap.size v _ xs.length xs [1] rfl rfl (HF3.out.box (.cells #[.int .u8 1] 5)).row (by_lit (w := w3) (bs := [1]) (cs := #[.int .u8 1]) (by simp) (by simp [u8s]) (by simp)) (by simp; omega) (HF3.out.box (.cells #[.int .u8 1] 5)).bl.size ?_; intro v4 w4 own4 gr4; obtain ⟨A4, k4, c4, rfl⟩ := own_slice own4; have F4 := HF3.out.box (.cells #[.int .u8 1] 5); have hg4 := F4.grown gr4 (by decide) F4.hv; have q0 := cell_of_one hg4; have q1 := free_of_one hg4; have f4 := F4.store gr4 own4; have x4 := F4.keep (v1 := .slice A4 k4 c4) gr4 (by decide) HNE.out (((box_below w3 _).block wr.heap.size (lt_of_block HX3.out)).trans HX3.out); clear d0 d1 d2 g3; obtain ⟨d0, d1, d2⟩ := opCells _ _ _ _ _ _ _ x4; have HF4 := Lib.hid f4; have HX4 := Lib.hid x4; clear own4 gr4 F4 hg4 f4 x4))
        have l5 : (xs ++ [1]).length ≤ 60000 := (by simp only [List.length_append, List.length_singleton]; omega)
        have hh5 := number_any G F (xs ++ [1]) (.slice A4 k4 c4) w _ HF4.out (Nat.le_trans s1 (by decide)) l5
        refine hh5.mono ?_
        clear hh5
        rintro e w5 ⟨rfl, ⟨v5, f5⟩, hs5, hk5⟩
        have x5 := hk5 _ _ HNE.out HX4.out
        clear d0 d1 d2 hk5
        obtain ⟨d0, d1, d2⟩ := opCells _ _ _ _ _ _ _ x5
        have HF5 := Lib.hid f5
        have HX5 := Lib.hid x5
        clear f5 x5
        go_wp2_with fail
        have l6 : (xs ++ [1] ++ num F).length ≤ 60000 := (by simp only [List.length_append, List.length_singleton, num_len]; omega)
        have hh6 := number_any G S (xs ++ [1] ++ num F) v5 w _ HF5.out (Nat.le_trans s2 (by decide)) l6
        refine hh6.mono ?_
        clear hh6
        rintro e w6 ⟨rfl, ⟨v6, f6⟩, hs6, hk6⟩
        have x6 := hk6 _ _ HNE.out HX5.out
        clear d0 d1 d2 hk6
        obtain ⟨d0, d1, d2⟩ := opCells _ _ _ _ _ _ _ x6
        have HF6 := Lib.hid f6
        have HX6 := Lib.hid x6
        clear f6 x6
        go_wp2_with fail
        exact ⟨⟨i + 1, _, by omega, by go_num, by rw [HE.out]; have := HF6.out; simpa [List.append_assoc] using this⟩, by simp [intOf]; omega⟩
    · obtain rfl : n = i := by omega
      have HFP := Lib.hid hfp
      have g0 := cell_of_one hfp.hv
      clear hfp
      go_wp2
      go_ret2
      exact ⟨_, rfl, HFP.out.row, HFP.out.bl⟩

end Go.Proofs.Ytgaliinjjonlmaa.Dt
