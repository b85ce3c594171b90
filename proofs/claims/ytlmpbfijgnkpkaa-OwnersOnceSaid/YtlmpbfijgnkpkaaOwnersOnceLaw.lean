/-
  The Go function leakresponse/leakresponselaw26.OwnersOnce returns true for every list of numbers, and leaves what was there as it was; no conditions. Each principal is an orphan, or owned by one person.
-/
import Derived.Test.YtlmpbfijgnkpkaaOwI
import Derived.Test.YtlmpbfijgnkpkaaRows
import Derived.WalkKit
import Derived.ProofKit
import Derived.OpenShut
import Derived.ShutString
import Derived.ChangeOld
import Derived.Below
import Derived.StillTailTactics
import Derived.Deep.CutBlock
namespace Go.Proofs.Ytlmpbfijgnkpkaa.ownersOnce
open Go.ChangeShapes Go.WideShapes Go.ChangeAt Go.RowKit
open Go.ChangeMaps (open_string shut_string)
open Go.Proofs.Ytlmpbfijgnkpkaa.Tp
open Go.Proofs.Ytlmpbfijgnkpkaa.Di
set_option linter.unusedVariables false

theorem wu_ex {f : Nat → Int} {n p : Nat} (hf : ∀ x, f x = -1 ∨ (0 ≤ f x ∧ f x < n)) : ∀ (k : Nat) (c : List Nat) (q : Int), Wu f n p c q → n ≤ c.length + k → ∃ c', Wy f n p c'
  | 0, c, q, h, hk => by
    by_cases h0 : q = -1 ∨ q.toNat ∈ c
    · exact ⟨c, h.done h0⟩
    · have h1 := h.next hf (fun e => h0 (.inl e)) (fun e => h0 (.inr e))
      have := h1.len
      simp at this
      omega
  | k + 1, c, q, h, hk => by
    by_cases h0 : q = -1 ∨ q.toNat ∈ c
    · exact ⟨c, h.done h0⟩
    · exact wu_ex hf k _ _ (h.next hf (fun e => h0 (.inl e)) (fun e => h0 (.inr e))) (by simp; omega)
theorem wy_ex {n : Nat} {l : List Sw} (h : SOk n l) (t : Int) {p : Nat} (hp : p < n) : ∃ c, Wy (fun y => stw l y t) n p c :=
  wu_ex (fun x => stw_rng h x t) n [] _ (Wu.start hp) (by simp)
theorem ix_lt (p : Nat → Bool) (n i : Nat) (hi : i < (idx p n).length) : (idx p n).getD i 0 < n := by
  have hm : (idx p n).getD i 0 ∈ idx p n := by
    rw [List.getD_eq_getElem?_getD, List.getElem?_eq_getElem hi]
    exact List.getElem_mem hi
  exact ((idx_mem _ _ _).1 hm).1
theorem lsts_lt (d : Dy) (l : List Sw) (t : Int) : ∀ k j, j < (lsts d l t k).length → ∀ i, i < ((lsts d l t k).getD j []).length → ((lsts d l t k).getD j []).getD i 0 < d.k.length
  | 0, j, hj, i, hi => by
    have hj : j < 1 := hj
    obtain rfl : j = 0 := by omega
    exact ix_lt _ _ _ hi
  | k + 1, j, hj, i, hi => by
    rw [lsts] at hj hi ⊢
    by_cases h : kd d k = 1
    · rw [if_pos h] at hj hi ⊢
      simp at hj
      by_cases e : j = (lsts d l t k).length
      · have e1 : (lsts d l t k ++ [idx (ownB d l t (k : Int)) d.k.length]).getD j [] = idx (ownB d l t (k : Int)) d.k.length := by
          rw [e, List.getD_eq_getElem?_getD, List.getElem?_append_right (Nat.le_refl _)]; simp
        rw [e1] at hi ⊢
        exact ix_lt _ _ _ hi
      · have e1 : (lsts d l t k ++ [idx (ownB d l t (k : Int)) d.k.length]).getD j [] = (lsts d l t k).getD j [] := by
          rw [List.getD_eq_getElem?_getD, List.getD_eq_getElem?_getD, List.getElem?_append_left (by omega)]
        rw [e1] at hi ⊢
        exact lsts_lt d l t k j (by omega) i hi
    · rw [if_neg h] at hj hi ⊢
      exact lsts_lt d l t k j hj i hi
theorem lsts_pos (d : Dy) (l : List Sw) (t : Int) : ∀ k, 0 < (lsts d l t k).length
  | 0 => Nat.zero_lt_one
  | k + 1 => by
    have := lsts_pos d l t k
    rw [lsts]
    split
    · simp
    · exact this
theorem cnt_up (p : Nat → Bool) (j : Nat) : ∀ d, cnt p j ≤ cnt p (j + d)
  | 0 => Nat.le_refl _
  | d + 1 => Nat.le_trans (cnt_up p j d) (by show cnt p (j + d) ≤ cnt p (j + d) + _; omega)
theorem tot_up (L : List (List Nat)) (q m : Nat) : ∀ d, tot L q m ≤ tot L q (m + d)
  | 0 => Nat.le_refl _
  | d + 1 => Nat.le_trans (tot_up L q m d) (by show tot L q (m + d) ≤ tot L q (m + d) + _; omega)
theorem tot_le {L : List (List Nat)} {q m i : Nat} (hm : m < L.length) (hi : i ≤ (L.getD m []).length) : tot L q m + hits (L.getD m []) q i ≤ tot L q L.length := by
  obtain ⟨e, he⟩ : ∃ e, L.length = (m + 1) + e := ⟨L.length - (m + 1), by omega⟩
  obtain ⟨f, hf⟩ : ∃ f, (L.getD m []).length = i + f := ⟨(L.getD m []).length - i, by omega⟩
  have h1 := tot_up L q (m + 1) e
  rw [← he, tot, hf] at h1
  have h2 := cnt_up (fun a => (L.getD m []).getD a 0 == q) i f
  unfold hits at h1 ⊢
  omega
theorem lsts_len (d : Dy) (l : List Sw) (t : Int) : ∀ k j, j < (lsts d l t k).length → ((lsts d l t k).getD j []).length ≤ d.k.length
  | 0, j, hj => by
    have hj : j < 1 := hj
    obtain rfl : j = 0 := by omega
    show (idx (orphB d l t) d.k.length).length ≤ _
    rw [idx_len]
    exact cnt_le _ _
  | k + 1, j, hj => by
    rw [lsts] at hj ⊢
    by_cases h : kd d k = 1
    · rw [if_pos h] at hj ⊢
      simp at hj
      by_cases e : j = (lsts d l t k).length
      · have e1 : (lsts d l t k ++ [idx (ownB d l t (k : Int)) d.k.length]).getD j [] = idx (ownB d l t (k : Int)) d.k.length := by
          rw [e, List.getD_eq_getElem?_getD, List.getElem?_append_right (Nat.le_refl _)]; simp
        rw [e1, idx_len]
        exact cnt_le _ _
      · have e1 : (lsts d l t k ++ [idx (ownB d l t (k : Int)) d.k.length]).getD j [] = (lsts d l t k).getD j [] := by
          rw [List.getD_eq_getElem?_getD, List.getD_eq_getElem?_getD, List.getElem?_append_left (by omega)]
        rw [e1]
        exact lsts_len d l t k j (by omega)
    · rw [if_neg h] at hj ⊢
      exact lsts_len d l t k j hj
theorem zinfo22 : (Try.prog.info? 22).map (fun i => (i.zero, i.size, i.bytes)) = some (some (.slice none 0 0), 1, 24) := by kernel_rfl

set_option maxRecDepth 100000 in
set_option maxHeartbeats 4000000 in
theorem walk (a0 : Option Addr) (len0 cap0 : Nat) (z0 : List Int) (w : World) (w0 : IsRow .i64 w a0 len0 cap0 z0) :
    Calls Try.prog 4 #[.slice a0 len0 cap0] w fun e w' => e = .returned (.bool true) ∧ Below w.heap.size w w' := by
  have hm := w0.at_.1
  unfold maxLen at hm
  have HTP := Lib.hid (tape_new w0)
  have HBX := Lib.hid (box_below w (.cells #[.slice a0 len0 cap0, .int .i64 0] 30))
  clear w0
  by_cases hlen : 300 < len0
  · have hl0 : (300 : Int) < (len0 : Int) := by omega
    go_enter Try.func4, Try.ntmps4
    go_wp2_with (go_at_call 8; refine (awake_any _).mono ?_; rintro e w1 ⟨rfl, hb1⟩; have HB1 := Lib.hid hb1; clear hb1)
    go_ret
    exact ⟨rfl, HB1.out⟩
  · have hl0 : (len0 : Int) ≤ (300 : Int) := by omega
    go_enter Try.func4, Try.ntmps4
    go_wp2_with fail
    refine (directory_any w.heap.size _ HTP.out (by simp)).mono ?_
    rintro e w1 ⟨d, v, rfl, hmk, hrl, hg1, ht1⟩
    have hb1 : Below w.heap.size w w1 := HBX.out.grown hg1 HBX.out.size (fun k e => by cases e; exact Nat.le_refl _)
    have hs1 := hg1.size
    simp at hs1
    have HQ := Lib.hid (heap_alloc_new w1 (.cells (gd d v) 25))
    have HDL := Lib.hid ((hrl.base (show w.heap.size + 1 ≤ _ by simp)).below (box_below w1 (.cells (gd d v) 25)))
    have HB1 := Lib.hid (hb1.trans ((box_below w1 (.cells (gd d v) 25)).mono hb1.size))
    have HT1 := Lib.hid (tape_new2 ht1 (.cells (gd d v) 25))
    have HMK := Lib.hid hmk
    have hn1 := hmk.n1
    have hn7 := hmk.n7
    clear hrl hg1 ht1 hb1 hmk
    obtain ⟨g0, g1⟩ := gdCells HQ.out
    go_wp2_with (with_reducible (show wpList _ _ _ (⟨none, .store 25 (.tmp 4) (.tmp 25), _, _, _, _⟩ :: _) _ _); refine wpList_store_row (o := ⟨none, .store 25 (.tmp 4) (.tmp 25), _, _, _, _⟩) rfl 25 (.tmp 4) (.tmp 25) rfl w1.heap.size (gd d v) rfl rfl 25 zD (heap_alloc_new _ _) (info25 _ _) rfl (gd_one _ _) ?_; rw [new_set])
    have HF := Lib.hid (show (#[.slice v.A1 d.k.length v.c1, .slice v.A2 d.e.length v.c2] : Array Value) = gd d v from rfl)
    rw [HF.out]
    refine (stewards_any w.heap.size 0 d v _ HT1.out (by simp; omega) hn1 (by omega)).mono ?_
    rintro e w2 ⟨l, A, cc, rfl, hms, hown, hg2, ht2⟩
    generalize w1.heap.size = Q at *
    generalize w1.alloc (.cells (gd d v) 25) = W1 at *
    have lQ : Q < W1.heap.size := row_lt HQ.out
    have HQ2 := Lib.hid ((hg2.block _ lQ (fun e => by injection e; omega)).trans HQ.out)
    have HD2 := Lib.hid (HDL.out.grown hg2 (fun g e => by cases e; omega))
    have HB2 := Lib.hid (HB1.out.grown hg2 HB1.out.size (fun k e => by cases e; exact Nat.le_refl _))
    have HT2 := Lib.hid ht2
    have HS2 := Lib.hid ((row_of_own hown).base (show w.heap.size + 1 ≤ W1.heap.size by omega))
    have HMS := Lib.hid hms
    have hm9 := hms.m9
    clear hg2 ht2 g0 g1 HQ HDL HB1 HT1 lQ hown hms
    generalize w2 = W2 at *
    have HOK := Lib.hid HMK.out.ok
    have HSK := Lib.hid HMS.out.ok
    have lQ : Q < W2.heap.size := row_lt HQ2.out
    obtain ⟨g0, g1⟩ := gdCells HQ2.out
    go_wp2_with fail
    refine (next_any w.heap.size 24 _ HT2.out (by omega) (by omega)).mono ?_
    rintro e wn ⟨zt, a1, b1, rfl, hgn, htn⟩
    obtain ⟨t, rfl⟩ : ∃ z : Nat, zt = z := ⟨zt.toNat, by omega⟩
    have BN := Lib.hid (HB2.out.grown hgn HB2.out.size (fun k e => by cases e; exact Nat.le_refl _))
    have HQN := Lib.hid ((hgn.block Q lQ (fun e => by injection e; omega)).trans HQ2.out)
    have HDN := Lib.hid (HD2.out.grown hgn (fun g e => by cases e; omega))
    have HSN := Lib.hid ((HS2.out.grown hgn (fun g e => by cases e; omega)).base (Nat.zero_le _))
    have lN := row_lt HQN.out
    have hwx := fun (y : Nat) (hy : y < d.k.length) => wy_ex HSK.out (t : Int) hy
    have HWX := Lib.hid hwx
    have hor := fun w' (hw : Below wn.heap.size wn w') => orphans_any _ d v l A cc t w' (HDN.out.below hw) (HSN.out.below hw) HOK.out HSK.out
    have hod := fun (y : Nat) w' (hw : Below wn.heap.size wn w') => owned_any _ d v l A cc y t w' (HDN.out.below hw) (HSN.out.below hw) HOK.out HSK.out
    simp only [gd] at hor hod
    have HOR := Lib.hid hor
    have HOD := Lib.hid hod
    have hbn := box_below wn (.cells (nar fun _ => 0) 51)
    have HBW := Lib.hid hbn
    have HX3 := Lib.hid (heap_alloc_new wn (.cells (nar fun _ => 0) 51))
    have HKP := Lib.hid (fun w' (hw : Below wn.heap.size wn w') => gdCells ((hw.block _ lN).trans HQN.out))
    obtain ⟨g0, g1⟩ := HKP.out _ (Below.refl wn.heap.size wn)
    clear a1 b1 hgn htn hor hod hwx hbn
    obtain ⟨j0, hj1, hy0, hy1, hy2⟩ := info_parts zinfo22
    have HJ := Lib.hid hj1
    have HJ0 := Lib.hid hy0
    have HJ1 := Lib.hid hy1
    have HJ2 := Lib.hid hy2
    clear hj1 hy0 hy1 hy2
    go_wp2_with fail
    rw [← nar_no]
    generalize wn.alloc (.cells (nar fun _ => 0) 51) = W3 at *
    refine (HOR.out _ HBW.out).mono ?_
    rintro e w4 ⟨AO, kO, rfl, hro, hb4⟩
    have l3 : wn.heap.size < W3.heap.size := row_lt HX3.out
    have HB4 := Lib.hid (HBW.out.trans (hb4.mono HBW.out.size))
    have HX4 := Lib.hid ((hb4.block _ l3).trans HX3.out)
    have l4 : wn.heap.size < w4.heap.size := row_lt HX4.out
    have HR4 := Lib.hid (own_base hro (show wn.heap.size + 1 ≤ W3.heap.size from l3))
    have hbx := box_below w4 (.cells #[.slice AO (cnt (orphB d l t) d.k.length) kO] 22)
    have HB5 := Lib.hid (HB4.out.trans (hbx.mono HB4.out.size))
    have HX5 := Lib.hid ((hbx.block _ l4).trans HX4.out)
    have HO5 := Lib.hid (full_own (xs := [.slice AO (cnt (orphB d l t) d.k.length) kO]) (B := wn.heap.size + 1) (n := 1) (heap_alloc_new w4 (.cells #[.slice AO (cnt (orphB d l t) d.k.length) kO] 22)) (by omega) rfl (by omega))
    have hls : LsAt (w4.alloc (.cells #[.slice AO (cnt (orphB d l t) d.k.length) kO] 22)) (wn.heap.size + 1) (lsts d l t 0) [.slice AO (cnt (orphB d l t) d.k.length) kO] := by
      refine ⟨rfl, fun j hj => ?_⟩
      have hj : j < 1 := hj
      obtain rfl : j = 0 := by omega
      have e1 : (lsts d l t 0).getD 0 [] = idx (orphB d l t) d.k.length := rfl
      rw [e1, idx_len]
      exact ⟨AO, kO, rfl, own_below HR4.out hbx⟩
    have HLS := Lib.hid hls
    have HL1 := Lib.hid (show (lsts d l t 0).length = 1 from rfl)
    obtain ⟨g0', g1'⟩ := HKP.out _ HB5.out
    clear hls hbx hro hb4 g0 g1
    go_wp2_with fail
    generalize w4.alloc (.cells #[.slice AO (cnt (orphB d l t) d.k.length) kO] 22) = W5 at *
    generalize [Value.slice AO (cnt (orphB d l t) d.k.length) kO] = xs0 at HO5 HLS
    obtain ⟨bk, okk, hA, -, -, -⟩ := (HDN.out.below HB5.out).r1.int (i := 0) hn1
    rw [hA]
    have HA := Lib.hid hA
    clear hA g0' g1'
    go_loopw [8, 39] (fun ov ii wr => ∃ (k : Nat) (xs : List Value), k ≤ d.k.length ∧ ii = .int .i64 (k : Int) ∧ (lsts d l t k).length ≤ k + 1 ∧ wr.ownsRow (wn.heap.size + 1) 22 1 ov (lsts d l t k).length xs ∧ LsAt wr (wn.heap.size + 1) (lsts d l t k) xs ∧ wr.heap[wn.heap.size]? = some (.cells (nar fun _ => 0) 51 (0, 0)) ∧ Below wn.heap.size wn wr) (fun _ ii _ => d.k.length - (intOf ii).toNat)
    case atStart => exact ⟨0, xs0, by omega, rfl, by rw [HL1.out]; omega, by rw [HL1.out]; exact HO5.out, HLS.out, HX5.out, HB5.out⟩
    case round =>
      obtain ⟨k, xs, hk, rfl, hln, hown, hls, hx, hbl⟩ := hrel
      have HOWN := Lib.hid hown
      have HLS1 := Lib.hid hls
      have HXX := Lib.hid hx
      have HBL := Lib.hid hbl
      have lx := row_lt hx
      obtain ⟨g0, g1⟩ := HKP.out _ hbl
      by_cases hlk : k < d.k.length
      · obtain ⟨b', off', e', -, -, y0⟩ := (HDN.out.below hbl).r1.int hlk
        rw [HA.out] at e'
        cases e'
        have y1 : wr.cell? ⟨bk, okk + k, none⟩ = some (.int .i64 ((kd d k : Nat) : Int)) := y0
        clear y0
        have HW := Lib.hid (HOD.out k _ hbl)
        have j0' : (0 : Int) ≤ (k : Int) := by omega
        have j1' : (k : Int) < (d.k.length : Int) := by omega
        have HSI := Lib.hid (show ∀ h : kd d k = 1, lsts d l t (k + 1) = lsts d l t k ++ [idx (ownB d l t (k : Int)) d.k.length] from fun h => by rw [lsts, if_pos h])
        have HSN2 := Lib.hid (show ∀ h : kd d k ≠ 1, lsts d l t (k + 1) = lsts d l t k from fun h => by rw [lsts, if_neg h])
        have HHI := Lib.hid (has_idx (ownB d l t (k : Int)) d.k.length k hlk)
        have HIL := Lib.hid (idx_len (ownB d l t (k : Int)) d.k.length)
        have hcl := cnt_le (ownB d l t (k : Int)) d.k.length
        unfold SmPost at HW
        clear hown hls hx hbl
        by_cases hk1 : kd d k = 1
        · have k9 : (((kd d k : Nat) : Int) != 1) = false := by rw [hk1]; rfl
          have HS := Lib.hid (HSI.out hk1)
          obtain ⟨cy, hcy⟩ := HWX.out k hlk
          have hself := own_self hcy hk1
          rw [hself] at HHI
          generalize idx (ownB d l t (k : Int)) d.k.length = LK at *
          generalize cnt (ownB d l t (k : Int)) d.k.length = nk at *
          generalize hLL : lsts d l t k = LL at *
          clear hk1 hcy hself hLL
          have e2 : LK.length = nk := HIL.out
          subst e2
          go_wp2_with (first
            | (go_at_call 24; (with_reducible refine HW.out.mono ?_); rintro e w6 ⟨Ao, ko, rfl, hao, hb6⟩; have HB6 := Lib.hid (HBL.out.trans (hb6.mono HBL.out.size)); have O6 := Lib.hid (own_below HOWN.out hb6); have L6 := Lib.hid (HLS1.out.below hb6); have X6 := Lib.hid ((hb6.block _ lx).trans HXX.out); have R6 := Lib.hid (own_base hao (show wn.heap.size + 1 ≤ wr.heap.size by omega)); have l6 := row_lt X6.out; clear hao hb6)
            | (at_builtin; refine wpList_append_own _ rfl (.tmp 54) (.tmp 56) 52 rfl (wn.heap.size + 1) 22 j0 (.slice none 0 0) 1 24 Try.underlying52 HJ.out HJ0.out HJ1.out HJ2.out rfl (by decide) _ LL.length xs rfl (O6.out.alloc _) ⟨w6.heap.size, 0, none⟩ 1 1 [.slice Ao LK.length ko] rfl rfl (World.news_of_block (heap_alloc_new w6 _)) (by simp [Value.oneCell']) (by unfold maxLen; omega) (by omega) (by simp; omega) ?_; intro v' w7 hown hgr _; have O7 := Lib.hid hown; have HB7 := Lib.hid (far_below HB6.out O6.out hgr (by omega)); have X7 := Lib.hid ((far_block O6.out hgr wn.heap.size (by omega) l6).trans X6.out); have hba := box_below w6 (.cells #[.slice Ao LK.length ko] 22); have L7 := Lib.hid ((L6.out.below hba).snoc (O6.out.alloc _) (by decide) hgr (own_below R6.out hba)); have R7 := Lib.hid (kept_ne (own_below R6.out hba) hgr (fun g e => own_ne O6.out R6.out (by decide) g e)); have HHS := Lib.hid (has_any LK k Ao LK.length ko w7 ((row_of_own R7.out).base (Nat.zero_le _)) (by omega)); rw [HHI.out] at HHS; clear hown hgr hba)
            | (go_at_call 26; (with_reducible refine HHS.out.mono ?_); rintro e w8 ⟨rfl, rfl⟩))
          exact ⟨⟨k + 1, xs ++ [.slice Ao LK.length ko], by omega, by go_num, by rw [HS.out]; simp; omega, by rw [HS.out, List.length_append]; exact O7.out, by rw [HS.out]; exact L7.out, X7.out, HB7.out⟩, by simp [intOf]; omega⟩
        · have k9 : (((kd d k : Nat) : Int) != 1) = true := by rw [bne, beq_eq_false_iff_ne.2 (show ((kd d k : Nat) : Int) ≠ 1 by omega)]; rfl
          have HS := Lib.hid (HSN2.out hk1)
          have hz : ¬ 0 < cnt (ownB d l t (k : Int)) d.k.length := fun h => by
            obtain ⟨j, hj, hj2⟩ := cnt_pos _ h
            exact hk1 (own_person hj2)
          have hd : decide ((0 : Int) < (cnt (ownB d l t (k : Int)) d.k.length : Int)) = false := decide_eq_false (by omega)
          generalize cnt (ownB d l t (k : Int)) d.k.length = nk at *
          clear hk1
          go_wp2_with (go_at_call 24; (with_reducible refine HW.out.mono ?_); rintro e w6 ⟨Ao, ko, rfl, hao, hb6⟩; have HB6 := Lib.hid (HBL.out.trans (hb6.mono HBL.out.size)); have O6 := Lib.hid (own_below HOWN.out hb6); have L6 := Lib.hid (HLS1.out.below hb6); have X6 := Lib.hid ((hb6.block _ lx).trans HXX.out); clear hao hb6)
          exact ⟨⟨k + 1, xs, by omega, by go_num, by rw [HS.out]; omega, by rw [HS.out]; exact O6.out, by rw [HS.out]; exact L6.out, X6.out, HB6.out⟩, by simp [intOf]; omega⟩
      · obtain rfl : k = d.k.length := by omega
        have HTT := Lib.hid (fun q hq => once (t := (t : Int)) HWX.out q hq)
        have HLB := Lib.hid (show ∀ j, j < (lsts d l t d.k.length).length → ∀ i, i < ((lsts d l t d.k.length).getD j []).length → ((lsts d l t d.k.length).getD j []).getD i 0 < d.k.length from lsts_lt d l t d.k.length)
        have hpos := lsts_pos d l t d.k.length
        have HLE := Lib.hid (lsts_len d l t d.k.length)
        generalize lsts d l t d.k.length = LL at *
        obtain ⟨Al, cl, rfl⟩ := own_form hown
        clear hown hls hx hbl
        clear g0 g1
        go_wp2_with fail
        go_loopw [65] (fun ii wv => ∃ (m : Nat) (F : Nat → Nat), m ≤ LL.length ∧ ii = .int .i64 (m : Int) ∧ (∀ q, q < d.k.length → F q = tot LL q m) ∧ wv.heap[wn.heap.size]? = some (.cells (nar F) 51 (0, 0)) ∧ wr.grownBy wv (some wn.heap.size)) (fun ii _ => LL.length - (intOf ii).toNat)
        case atStart => exact ⟨0, fun _ => 0, by omega, rfl, fun q hq => rfl, HXX.out, gb_row (gb_of_below (Below.refl _ _))⟩
        case round =>
          obtain ⟨m, F, hm, rfl, hF, hxv, hgv⟩ := hrel
          rename World => wv
          have HXV := Lib.hid hxv
          have HGV := Lib.hid hgv
          have HFV := Lib.hid hF
          by_cases hlm : m < LL.length
          · obtain ⟨Am, cm, hxm, hom⟩ := HLS1.out.2 m hlm
            obtain ⟨bl, ol, hAl, -, -, hc⟩ := (row_of_own (own_keepT HOWN.out hgv (Nat.lt_succ_self _))).mem (by omega)
            have y0 := hc m _ hxm
            subst hAl
            have HOM := Lib.hid hom
            have HLM := Lib.hid (HLB.out m hlm)
            have hlen := HLE.out m hlm
            have HTL := Lib.hid (fun q i (hi : i ≤ (LL.getD m []).length) => tot_le (q := q) hlm hi)
            have HTS := Lib.hid (show ∀ q, tot LL q (m + 1) = tot LL q m + hits (LL.getD m []) q (LL.getD m []).length from fun q => rfl)
            have i0 : (0 : Int) ≤ (m : Int) := by omega
            have i1 : (m : Int) < (LL.length : Int) := by omega
            generalize LL.getD m [] = Lm at *
            clear hxv hgv hF hxm hom hc
            go_wp2_with fail
            go_loopw [71] (fun ii wx => ∃ (i : Nat) (G : Nat → Nat), i ≤ Lm.length ∧ ii = .int .i64 (i : Int) ∧ (∀ q, q < d.k.length → G q = tot LL q m + hits Lm q i) ∧ wx.heap[wn.heap.size]? = some (.cells (nar G) 51 (0, 0)) ∧ wr.grownBy wx (some wn.heap.size)) (fun ii _ => Lm.length - (intOf ii).toNat)
            case atStart => exact ⟨0, F, by omega, rfl, fun q hq => by rw [HFV.out q hq]; rfl, HXV.out, HGV.out⟩
            case round =>
              obtain ⟨i, G, hi, rfl, hG, hxx, hgx⟩ := hrel
              rename World => wx
              have HXW := Lib.hid hxx
              have HGX := Lib.hid hgx
              have HGG := Lib.hid hG
              by_cases hli : i < Lm.length
              · obtain ⟨b2, o2, hA2, -, -, x0⟩ := (row_of_own (own_keepT HOM.out hgx (Nat.lt_succ_self _))).int hli
                subst hA2
                have hxn := HLM.out i hli
                have HHS := Lib.hid (fun q => hits_succ Lm q i)
                generalize Lm.getD i 0 = x at *
                obtain ⟨u0, f0⟩ := nar_cell hxx (show x < 24 by omega)
                obtain ⟨k0, k1⟩ := gdCells ((hgx.block Q (by have := HBL.out.size; omega) (fun e => by injection e; omega)).trans ((HBL.out.block _ lN).trans HQN.out))
                have hb1 : G x ≤ 1 := by
                  have h1 := HGG.out x hxn
                  have h2 := HTL.out x i hi
                  have h3 := HTT.out x hxn
                  omega
                obtain ⟨g, hg⟩ : ∃ g, G x = g := ⟨_, rfl⟩
                rw [hg] at u0 hb1
                obtain ⟨u, hu⟩ : ∃ u, g + 1 = u := ⟨_, rfl⟩
                have hsum : (g : Int) + 1 = (u : Int) := by omega
                have hwu : IntKind.i64.wrap (u : Int) = (u : Int) := IntWalk.i64_in _ (by omega)
                have p0 : (0 : Int) ≤ (x : Int) := by omega
                have p2 : (x : Int) < 24 := by omega
                have q1 : decide ((x : Int) < 0) = false := decide_eq_false (by omega)
                have q2 : decide (d.k.length ≤ x) = false := decide_eq_false (by omega)
                have q3 : ¬ d.k.length ≤ x := by omega
                have i2 : (0 : Int) ≤ (i : Int) := by omega
                have i3 : (i : Int) < (Lm.length : Int) := by omega
                have HU := Lib.hid (show u = G x + 1 by omega)
                clear hxx hgx hG hg hu y0
                go_wp2_with fail
                rw [nar_put u HXW.out (show x < 24 by omega)]
                refine ⟨⟨i + 1, fun a => if a = x then u else G a, by omega, by go_num, fun q hq => ?_, setRow_heap _ _ _ _ _ _ HXW.out, gb_trans HGX.out (gb_setRow _ _ _)⟩, by simp [intOf]; omega⟩
                show (if q = x then u else G q) = _
                rw [HHS.out q]
                have := HGG.out q hq
                have hU := HU.out
                by_cases e : q = x
                · subst e; rw [if_pos rfl, if_pos rfl]; omega
                · rw [if_neg e, if_neg (fun h => e h.symm)]; omega
              · obtain rfl : i = Lm.length := by omega
                clear hxx hgx hG y0
                go_wp2_with fail
                exact ⟨⟨m + 1, G, by omega, by go_num, fun q hq => by rw [HGG.out q hq, HTS.out q], HXW.out, HGX.out⟩, by simp [intOf]; omega⟩
          · obtain rfl : m = LL.length := by omega
            have HBZ := Lib.hid ((BN.out.trans (HBL.out.mono BN.out.size)).grown hgv (BN.out.trans (HBL.out.mono BN.out.size)).size (fun k e => by cases e; exact BN.out.size))
            obtain ⟨k0, k1⟩ := gdCells ((hgv.block Q (by have := HBL.out.size; omega) (fun e => by injection e; omega)).trans ((HBL.out.block _ lN).trans HQN.out))
            clear hxv hgv hF
            go_wp2_with fail
            go_loopw [94] (fun ii wy => ∃ k : Nat, k ≤ d.k.length ∧ ii = .int .i64 (k : Int) ∧ wv = wy) (fun ii _ => d.k.length - (intOf ii).toNat)
            case atStart => exact ⟨0, by omega, rfl, rfl⟩
            case round =>
              obtain ⟨k, hk, rfl, rfl⟩ := hrel
              by_cases hlk : k < d.k.length
              · obtain ⟨u0, -⟩ := nar_cell HXV.out (show k < 24 by omega)
                have hf1 : F k = 1 := by rw [HFV.out k hlk]; exact HTT.out k hlk
                rw [hf1] at u0
                have u1 : wv.cell? ⟨wn.heap.size, k, none⟩ = some (.int .i64 1) := u0
                have p0 : (0 : Int) ≤ (k : Int) := by omega
                have p1 : (k : Int) < (d.k.length : Int) := by omega
                have p2 : (k : Int) < 24 := by omega
                clear u0 hf1 k0 k1
                go_wp2_with fail
                exact ⟨⟨k + 1, by omega, by go_num, by first | rfl | trivial⟩, by simp [intOf]; omega⟩
              · obtain rfl : k = d.k.length := by omega
                clear k0 k1
                go_wp2_with (go_at_call 8; refine (awake_any _).mono ?_; rintro e w9 ⟨rfl, hb9⟩; have HB9 := Lib.hid (HBZ.out.trans (hb9.mono HBZ.out.size)); clear hb9)
                go_ret
                exact ⟨rfl, HB9.out⟩

/-! ### THE ROW's STEP: WRITTEN OUT: LEAVE IT -/
set_option maxRecDepth 100000 in
theorem lifted (os : Os) (started : os.Started) (H : Type) (enc : TypeId × Value → H) :
    ReturnsInHanded {} Try.checked os 4 .any (Rows.ownersOnceSpec.pre6 enc Try.prog Try.f4 Rows.ownersOnceRow.domain false) (Rows.ownersOnceSpec.post enc Try.prog Try.f4 false true false false) := by
  refine returnsInHanded_of_change (C := Try.checked) own started (by kernel_rfl) Try.func4
    (ChangeSpec.witness6 (enc := enc) (C := Try.checked) false ⟨#[], #[.slice none 0 0], []⟩ 8 (by kernel_rfl) (by kernel_rfl) (by kernel_rfl) (by kernel_rfl)) ?_
  intro W base args ds gs before hval0 hW hcnd _
  have hval : ∀ (j : Nat) t v, Try.f4.params[j]? = some t → args[j]? = some v → Value.okWide Try.prog W .any base t v := hval0
  have hW' := hW
  obtain ⟨p, q, hA0, hV, rfl, hfz, hnd⟩ := hW
  have hA : DataW.TrodAll enc Try.prog W 0 (fun _ => true) true Try.f4.params.toList args.toList ds p := hA0
  rw [Try.params4] at hA hval
  obtain ⟨v0, vs0, d0, ds0, p0, q0, hargs, rfl, rfl, h0, r0⟩ := trodAll_cons hA
  obtain ⟨rfl, rfl, rfl⟩ := trodAll_nil r0
  obtain rfl : args = #[v0] := by cases args; simp_all
  obtain ⟨rfl, rfl⟩ := trodVars_none hV
  obtain ⟨a0, len0, cap0, rfl⟩ := okWide_slice Try.underlying22 (hval 0 22 v0 rfl rfl)
  have k0 := h0
  have lt0 : ∀ x ∈ p0, x.block < W.heap.size := by obtain ⟨m, hm⟩ := k0; exact DataW.trod_lt m _ _ _ hm
  obtain ⟨z0, w0⟩ : ∃ zs, IsRow .i64 W a0 len0 cap0 zs := by
    obtain ⟨fuel, hf⟩ := h0
    rcases open_ints Try.underlying22 Try.underlying3 (by kernel_rfl) hf with ⟨hcs, _⟩ | ⟨x, l, c, zs, hcs, _, hl, hm, hz, _, hcell, hwz⟩
    · simp [Value.cells] at hcs
      obtain ⟨rfl, rfl, rfl⟩ := hcs
      exact ⟨[], .inl ⟨rfl, rfl, rfl, rfl⟩⟩
    · simp [Value.cells] at hcs
      obtain ⟨rfl, rfl, rfl⟩ := hcs
      exact ⟨zs, .inr ⟨_, rfl, hl, hm, by simpa using hz, hcell, hwz⟩⟩
  clear hA0 hval0
  refine (walk a0 len0 cap0 z0 W w0).mono fun e W' ⟨he, bel⟩ => ?_
  subst he
  exact ⟨_, rfl, _, _, _, [], _, [], hW', trodAll_mk1 (shut_bool Try.underlying4 _), (trodAll_cons_mk (Below.trod laidOut (by kernel_rfl) (of_decide_eq_true (by kernel_rfl)) k0 bel lt0) trodAll_mk0), rfl, bel.frame _, fun h => by cases h⟩

theorem over : Rows.ownersOnceRow.holds Try.pinned (OpenSpec.ofChange Rows.ownersOnceSpec) :=
  OpenClaim.holds_of_wide 4 Try.f4 rfl rfl rfl rfl rfl rfl rfl ⟨rfl, rfl, rfl, rfl, rfl⟩ rfl rfl rfl rfl rfl (by kernel_rfl) Try.func4 (by kernel_rfl)
    (of_decide_eq_true (by kernel_rfl)) (by unfold Func.isWrapper; first | (rw [if_pos (by decide +kernel)]; kernel_rfl) | (rw [if_neg (by decide +kernel)]; exact ⟨rfl, rfl⟩))
    (fun os started H enc _ => lifted os started H enc)

/-- ████ THE STATEMENT ████ -/
theorem proved : Rows.OwnersOnceSaid := over
#print axioms proved
end Go.Proofs.Ytlmpbfijgnkpkaa.ownersOnce
