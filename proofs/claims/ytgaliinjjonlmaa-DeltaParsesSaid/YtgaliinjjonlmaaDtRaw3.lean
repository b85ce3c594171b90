import Derived.Test.YtgaliinjjonlmaaDtRaw2
namespace Go.Proofs.Ytgaliinjjonlmaa.Dt
open Go.RowKit
open Go.Proofs.Ytgaliinjjonlmaa.Tp
set_option linter.unusedVariables false

/-- The bytes of an operation, and of the first n. -/
def fmr (r : R) : List Nat := if 1 ≤ r.s then [1] ++ num r.f.toNat ++ num r.s.toNat else [0] ++ num r.d.length ++ r.d
def fmR (rs : List R) : Nat → List Nat
  | 0 => []
  | n + 1 => fmR rs n ++ fmr (rs.getD n r0)

/-- The error of operations, and their bytes. -/
def fmtE (rs : List R) (n : Nat) : Int := if 200 < n then 3 else if anyR lar rs n = true then 3 else if anyR bad rs n = true then 2 else 0
def fmtB (rs : List R) (n : Nat) : List Nat := if fmtE rs n = 0 then fmR rs n else []

theorem valid_cases {r : R} (h : bad r = false) (hl : lar r = false) : (r.f = 0 ∧ r.s = 0 ∧ 0 < r.d.length) ∨ (0 ≤ r.f ∧ r.f ≤ 65536 ∧ 1 ≤ r.s ∧ r.s ≤ 65536 ∧ r.d.length = 0) := by
  obtain ⟨F, S, d⟩ := r
  simp [bad, cpyB, insB] at h
  simp [lar, larB] at hl
  simp only
  by_cases h1 : 1 ≤ S ∧ 0 ≤ F ∧ d = []
  · obtain ⟨h1, h2, rfl⟩ := h1
    exact .inr ⟨h2, by omega, h1, by omega, rfl⟩
  · have := h (by
      rcases Classical.em (d = []) with hd | hd
      · have : ¬ (1 ≤ S ∧ 0 ≤ F) := fun ⟨a, b⟩ => h1 ⟨a, b, hd⟩
        exact .inl (by omega)
      · exact .inr hd)
    exact .inl ⟨this.1.2, this.1.1, this.2⟩

theorem valid_len {r : R} (h : lar r = false) : r.d.length ≤ 65536 := by
  simp [lar, larB] at h
  omega

theorem fmr_len (r : R) : (fmr r).length ≤ 7 + r.d.length := by
  unfold fmr
  split
  · simp [num_len]
  · simp [num_len]
    omega

theorem fmR_len (rs : List R) : ∀ n, (fmR rs n).length ≤ 7 * n + dat rs n
  | 0 => by simp [fmR]
  | n + 1 => by
    have h1 := fmR_len rs n
    have h2 := fmr_len (rs.getD n r0)
    simp only [fmR, dat, List.length_append]
    omega

/-- What Format hands back. -/
def FRes (w : World) (rs : List R) (n : Nat) (e : Ending) (w' : World) : Prop := ∃ v, e = .returned (.tuple #[v, .int .i64 (fmtE rs n)]) ∧ w'.ownsRow w.heap.size 5 1 v (fmtB rs n).length (u8s (fmtB rs n)) ∧ Below w.heap.size w w'

theorem fres_err {w w' : World} {rs : List R} {n : Nat} {k : Int} (hk : fmtE rs n = k) (h0 : k ≠ 0) (hb : Below w.heap.size w w') : FRes w rs n (.returned (.tuple #[.slice none 0 0, .int .i64 k])) w' := by
  subst hk
  refine ⟨_, rfl, ?_, hb⟩
  rw [show fmtB rs n = [] from if_neg h0]
  exact World.ownsRow_nil _ _ _ _

set_option maxRecDepth 100000 in
set_option maxHeartbeats 4000000 in
theorem format_raw (A : Option Addr) (n c : Nat) (rs : List R) (vs : List Value) (w : World) (h : RLies w A n rs vs) (hf : few rs n true) :
    Calls Try.prog 27 #[.slice A n c] w (FRes w rs n) := by
  obtain ⟨hn, hd⟩ := hf rfl
  have HCL := Lib.hid (contains_lar A n c rs vs w h (by omega))
  have HCB := Lib.hid (fun w' (hw : Below w.heap.size w w') => contains_bad2 A n c rs vs w' (h.below hw) (by omega))
  have HLI := Lib.hid (fun w' (hw : Below w.heap.size w w') => h.below hw)
  have HDA := Lib.hid hd
  clear h hf hd
  by_cases h200 : 200 < n
  · have hi : (200 : Int) < (n : Int) := by omega
    have HE : Hid (fmtE rs n = 3) := Lib.hid (if_pos h200)
    go_enter Try.func27, Try.ntmps27
    go_wp2_with fail
    go_ret2
    exact fres_err HE.out (by decide) (Below.refl _ _)
  have hi : ¬ (200 : Int) < (n : Int) := by omega
  obtain ⟨q, hq⟩ : ∃ q, anyR lar rs n = q := ⟨_, rfl⟩
  rw [hq] at HCL
  cases q
  case true =>
    have HE : Hid (fmtE rs n = 3) := Lib.hid (by simp [fmtE, h200, hq])
    clear hq
    go_enter Try.func27, Try.ntmps27
    go_wp2_with (go_at_call 54; refine HCL.out.mono ?_; rintro e w1 ⟨rfl, hb1⟩; have HB1 := Lib.hid hb1; clear hb1)
    go_ret2
    exact fres_err HE.out (by decide) HB1.out
  case false =>
  have HLAR := Lib.hid (anyR_no hq)
  obtain ⟨q, hq2⟩ : ∃ q, anyR bad rs n = q := ⟨_, rfl⟩
  rw [hq2] at HCB
  cases q
  case true =>
    have HE : Hid (fmtE rs n = 2) := Lib.hid (by simp [fmtE, h200, hq, hq2])
    clear hq hq2
    go_enter Try.func27, Try.ntmps27
    go_wp2_with (first
      | (go_at_call 54; refine HCL.out.mono ?_; rintro e w1 ⟨rfl, hb1⟩; have HB1 := Lib.hid hb1; clear hb1)
      | (go_at_call 54; refine (HCB.out _ HB1.out).mono ?_; rintro e w2 ⟨rfl, hb2⟩; have HB2 := Lib.hid (HB1.out.trans (hb2.mono HB1.out.size)); clear hb2))
    go_ret2
    exact fres_err HE.out (by decide) HB2.out
  case false =>
  have HBAD := Lib.hid (anyR_no hq2)
  have he0 : fmtE rs n = 0 := by simp [fmtE, h200, hq, hq2]
  have HE0 := Lib.hid he0
  have HT : Hid (∀ i, i ≤ n → (fmR rs i).length ≤ 6000) := Lib.hid (fun i hi => by
    have h1 := fmR_len rs i
    have h2 := dat_mono rs i n hi
    have h3 := HDA.out (fun j hj => valid_len (HLAR.out j hj))
    omega)
  have HRES : Hid (∀ e w', (∃ v, e = .returned (.tuple #[v, .int .i64 0]) ∧ w'.ownsRow w.heap.size 5 1 v (fmR rs n).length (u8s (fmR rs n)) ∧ Below w.heap.size w w') → FRes w rs n e w') := Lib.hid (fun e w' ⟨v, h1, h2, h3⟩ => ⟨v, by rw [he0]; exact h1, by rw [show fmtB rs n = fmR rs n from if_pos he0]; exact h2, h3⟩)
  clear hq hq2 he0
  refine Calls.mono ?_ HRES.out
  go_enter Try.func27, Try.ntmps27
  go_wp2_with (first
    | (go_at_call 54; refine HCL.out.mono ?_; rintro e w1 ⟨rfl, hb1⟩; have HB1 := Lib.hid hb1; clear hb1)
    | (go_at_call 54; refine (HCB.out _ HB1.out).mono ?_; rintro e w2 ⟨rfl, hb2⟩; have HB2 := Lib.hid (HB1.out.trans (hb2.mono HB1.out.size)); have HB3 := Lib.hid (HB2.out.trans ((box_below w2 (.cells #[.slice none 0 0] 23)).mono HB2.out.size)); clear hb2))
  generalize hG : w2.heap.size = G at *
  have H0 : Fpr w G [] (.slice none 0 0) (w2.alloc (.cells #[.slice none 0 0] 23)) := ⟨by rw [← hG]; exact heap_alloc_new _ _, World.ownsRow_nil _ _ _ _, HB3.out, by rw [← hG]; exact HB2.out.size⟩
  have HF0 := Lib.hid H0
  clear H0
  go_loopw [22] (fun ii wr => ∃ (i : Nat) (v : Value), i ≤ n ∧ ii = .int .i64 i ∧ Fpr w G (fmR rs i) v wr) (fun ii _ => n - (intOf ii).toNat)
  case atStart => exact ⟨0, _, by omega, rfl, HF0.out⟩
  case round =>
    obtain ⟨i, v, hi, rfl, hfp⟩ := hrel
    by_cases hlt : i < n
    · have HFP := Lib.hid hfp
      obtain ⟨b, off, rfl, hbk, hc⟩ := (HLI.out _ hfp.bl).mem (by omega)
      obtain ⟨c0, c1, c2⟩ := hc i hlt
      have hby := fun w' hw => (HLI.out w' hw).by_ i hlt
      have hbd := HBAD.out i hlt
      have hla := HLAR.out i hlt
      have ht1 := HT.out i hi
      have ht2 := HT.out (i + 1) hlt
      have e1 : fmR rs (i + 1) = fmR rs i ++ fmr (rs.getD i r0) := rfl
      obtain ⟨X, cc, hdv⟩ := (hby _ hfp.bl).form
      clear hc hfp hbk
      obtain ⟨⟨F, S, d⟩, ho⟩ : ∃ o, rs.getD i r0 = o := ⟨_, rfl⟩
      rw [hdv] at c2
      rw [ho] at c0 c1 c2 hbd hla e1
      simp only at c0 c1 c2
      have hby2 : ∀ w', Below w.heap.size w w' → Rb w' (.slice X d.length cc) d := fun w' hw => by
        have h1 := hby w' hw
        rw [hdv, ho] at h1
        exact h1
      rw [e1, List.length_append] at ht2
      have HD := Lib.hid hby2
      clear hby hby2 ho hdv
      rcases valid_cases hbd hla with ⟨h2, h3, hk⟩ | ⟨hF, hF2, hS, hS2, hk⟩
      · simp only at h2 h3 hk
        subst h2
        subst h3
        have s3 : d.length ≤ 65536 := valid_len hla
        have ef : fmr ⟨0, 0, d⟩ = [0] ++ num d.length ++ d := if_neg (by simp)
        rw [ef] at e1 ht2
        simp only [List.length_append, num_len, List.length_singleton] at ht2
        have HCN : Hid (∀ W, Calls Try.prog 53 #[.agg #[.int .i64 0, .int .i64 0, .slice X d.length cc]] W fun e w' => e = .returned (.bool false) ∧ Below W.heap.size W w') := Lib.hid (fun W => cpy_raw 0 0 X d.length cc W)
        clear hbd hla
        have HE := Lib.hid e1
        have HAB := Lib.hid (HFP.out.box (.cells #[.int .i64 0, .int .i64 0, .slice X d.length cc] 54))
        have hne : wr.heap.size ≠ G := by have := lt_of_block HFP.out.hv; omega
        have HNE := Lib.hid hne
        clear e1 ef hne
        generalize fmR rs i = xs at *
        go_wp2_with (first
          | (go_at_call 53; refine (HCN.out _).mono ?_; rintro e w3 ⟨rfl, hb3⟩; have f3 := HAB.out.below hb3; have x3 := (hb3.block wr.heap.size (by simp)).trans (heap_alloc_new wr (.cells #[.int .i64 0, .int .i64 0, .slice X d.length cc] 54)); have g3 := cell_of_one f3.hv; obtain ⟨d0, d1, d2⟩ := opCells _ _ _ _ _ _ _ x3; have HF3 := Lib.hid f3; have HX3 := Lib.hid x3; clear hb3 f3 x3)
          | (at_builtin; refine append_by rfl (.tmp 39) (.tmp 40) rfl w.heap.size v _ xs.length xs [0] rfl rfl (HF3.out.box (.cells #[.int .u8 0] 5)).row (by_lit (w := w3) (bs := [0]) (cs := #[.int .u8 0]) (by simp) (by simp [u8s]) (by simp)) (by simp; omega) (HF3.out.box (.cells #[.int .u8 0] 5)).bl.size ?_; intro v4 w4 own4 gr4; obtain ⟨A4, k4, c4, rfl⟩ := own_slice own4; have F4 := HF3.out.box (.cells #[.int .u8 0] 5); have hg4 := F4.grown gr4 (by decide) F4.hv; have q0 := cell_of_one hg4; have q1 := free_of_one hg4; have f4 := F4.store gr4 own4; have x4 := F4.keep (v1 := .slice A4 k4 c4) gr4 (by decide) HNE.out (((box_below w3 _).block wr.heap.size (lt_of_block HX3.out)).trans HX3.out); clear d0 d1 d2 g3; obtain ⟨d0, d1, d2⟩ := opCells _ _ _ _ _ _ _ x4; have HF4 := Lib.hid f4; have HX4 := Lib.hid x4; clear own4 gr4 F4 hg4 f4 x4))
        have l5 : (xs ++ [0]).length ≤ 60000 := (by simp only [List.length_append, List.length_singleton]; omega)
        have hh5 := number_any G d.length (xs ++ [0]) (.slice A4 k4 c4) w _ HF4.out (Nat.le_trans s3 (by decide)) l5
        refine hh5.mono ?_
        clear hh5
        rintro e w5 ⟨rfl, ⟨v5, f5⟩, hs5, hk5⟩
        have x5 := hk5 _ _ HNE.out HX4.out
        clear d0 d1 d2 hk5
        obtain ⟨d0, d1, d2⟩ := opCells _ _ _ _ _ _ _ x5
        have g5 := cell_of_one f5.hv
        have HF5 := Lib.hid f5
        have HX5 := Lib.hid x5
        clear f5 x5
        go_wp2_with (at_builtin; refine append_by rfl (.tmp 47) (.tmp 49) rfl w.heap.size v5 _ (xs ++ [0] ++ num d.length).length (xs ++ [0] ++ num d.length) d rfl rfl HF5.out.row ((HD.out _ HF5.out.bl).by hk) (by simp [num_len]; omega) HF5.out.bl.size ?_; intro v6 w6 own6 gr6; obtain ⟨A6, k6, c6, rfl⟩ := own_slice own6; have hg6 := HF5.out.grown gr6 (by decide) HF5.out.hv; have r0 := cell_of_one hg6; have r1 := free_of_one hg6; have f6 := HF5.out.store gr6 own6; have HF6 := Lib.hid f6; clear own6 gr6 hg6 f6)
        exact ⟨⟨i + 1, _, by omega, by go_num, by rw [HE.out]; have := HF6.out; simpa [List.append_assoc] using this⟩, by simp [intOf]; omega⟩
      · simp only at hF hF2 hS hS2 hk
        obtain ⟨F, rfl⟩ : ∃ m : Nat, F = m := ⟨F.toNat, by omega⟩
        obtain ⟨S, rfl⟩ : ∃ m : Nat, S = m := ⟨S.toNat, by omega⟩
        have s1 : F ≤ 65536 := by omega
        have s2 : S ≤ 65536 := by omega
        have hS1 : 1 ≤ S := by omega
        have hdn : d = [] := List.eq_nil_of_length_eq_zero hk
        subst hdn
        have ef : fmr ⟨(F : Int), (S : Int), []⟩ = [1] ++ num F ++ num S := if_pos (by simpa using hS)
        have HCY : Hid (∀ W, Calls Try.prog 53 #[.agg #[.int .i64 (F : Int), .int .i64 (S : Int), .slice X 0 cc]] W fun e w' => e = .returned (.bool true) ∧ Below W.heap.size W w') := Lib.hid (fun W => (cpy_raw F S X 0 cc W).mono fun e w' h => ⟨by rw [h.1]; simp [cpyB]; omega, h.2⟩)
        clear hbd hla hF hF2 hS hS2 hk
        rw [ef] at e1 ht2
        simp only [List.length_append, num_len, List.length_singleton] at ht2
        have HE := Lib.hid e1
        have HAB := Lib.hid (HFP.out.box (.cells #[.int .i64 (F : Int), .int .i64 (S : Int), .slice X 0 cc] 54))
        have hne : wr.heap.size ≠ G := by have := lt_of_block HFP.out.hv; omega
        have HNE := Lib.hid hne
        clear e1 ef hne
        generalize fmR rs i = xs at *
        go_wp2_with (first
          | (go_at_call 53; refine (HCY.out _).mono ?_; rintro e w3 ⟨rfl, hb3⟩; have f3 := HAB.out.below hb3; have x3 := (hb3.block wr.heap.size (by simp)).trans (heap_alloc_new wr (.cells #[.int .i64 (F : Int), .int .i64 (S : Int), .slice X 0 cc] 54)); have g3 := cell_of_one f3.hv; obtain ⟨d0, d1, d2⟩ := opCells _ _ _ _ _ _ _ x3; have HF3 := Lib.hid f3; have HX3 := Lib.hid x3; clear hb3 f3 x3)
          | (at_builtin; refine append_by rfl (.tmp 28) (.tmp 29) rfl w.heap.size v _ xs.length xs [1] rfl rfl (HF3.out.box (.cells #[.int .u8 1] 5)).row (by_lit (w := w3) (bs := [1]) (cs := #[.int .u8 1]) (by simp) (by simp [u8s]) (by simp)) (by simp; omega) (HF3.out.box (.cells #[.int .u8 1] 5)).bl.size ?_; intro v4 w4 own4 gr4; obtain ⟨A4, k4, c4, rfl⟩ := own_slice own4; have F4 := HF3.out.box (.cells #[.int .u8 1] 5); have hg4 := F4.grown gr4 (by decide) F4.hv; have q0 := cell_of_one hg4; have q1 := free_of_one hg4; have f4 := F4.store gr4 own4; have x4 := F4.keep (v1 := .slice A4 k4 c4) gr4 (by decide) HNE.out (((box_below w3 _).block wr.heap.size (lt_of_block HX3.out)).trans HX3.out); clear d0 d1 d2 g3; obtain ⟨d0, d1, d2⟩ := opCells _ _ _ _ _ _ _ x4; have HF4 := Lib.hid f4; have HX4 := Lib.hid x4; clear own4 gr4 F4 hg4 f4 x4))
        have l5 : (xs ++ [1]).length ≤ 60000 := (by simp only [List.length_append, List.length_singleton]; omega)
        have hh5 := number_any G F (xs ++ [1]) (.slice A4 k4 c4) w _ HF4.out (Nat.le_trans s1 (by decide)) l5
        refine hh5.mono ?_
        clear hh5
        rintro e w5 ⟨rfl, ⟨v5, f5⟩, hs5, hk5⟩
        have x5 := hk5 _ _ HNE.out HX4.out
        clear d0 d1 d2 hk5
        obtain ⟨d0, d1, d2⟩ := opCells _ _ _ _ _ _ _ x5
        have HF5 := Lib.hid f5
        have HX5 := Lib.hid x5
        clear f5 x5
        go_wp2_with fail
        have l6 : (xs ++ [1] ++ num F).length ≤ 60000 := (by simp only [List.length_append, List.length_singleton, num_len]; omega)
        have hh6 := number_any G S (xs ++ [1] ++ num F) v5 w _ HF5.out (Nat.le_trans s2 (by decide)) l6
        refine hh6.mono ?_
        clear hh6
        rintro e w6 ⟨rfl, ⟨v6, f6⟩, hs6, hk6⟩
        have x6 := hk6 _ _ HNE.out HX5.out
        clear d0 d1 d2 hk6
        obtain ⟨d0, d1, d2⟩ := opCells _ _ _ _ _ _ _ x6
        have HF6 := Lib.hid f6
        have HX6 := Lib.hid x6
        clear f6 x6
        go_wp2_with fail
        exact ⟨⟨i + 1, _, by omega, by go_num, by rw [HE.out]; have := HF6.out; simpa [List.append_assoc] using this⟩, by simp [intOf]; omega⟩
    · obtain rfl : n = i := by omega
      have HFP := Lib.hid hfp
      have g0 := cell_of_one hfp.hv
      clear hfp
      go_wp2
      go_ret2
      exact ⟨_, rfl, HFP.out.row, HFP.out.bl⟩


end Go.Proofs.Ytgaliinjjonlmaa.Dt
