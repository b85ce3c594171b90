import Derived.Test.YtamcjhibdcbdnaaCRv
namespace Go.Proofs.Ytamcjhibdcbdnaa.Cl
open Go.RowKit
open Go.Proofs.Ytamcjhibdcbdnaa.Tp
set_option linter.unusedVariables false

theorem refrun_x {m B n cc : Nat} {A : Option Addr} {c : Cl} {v : Vl} {l : List Ev} {w : World} (h : CL w B c v) (hok : Ok m c) (hm : m + n ≤ 90) (hl : Row w 0 4 A n (el l)) (hf : Fits c l) :
    Calls Try.prog 28 #[.agg #[.bool c.f, .slice v.A1 c.s.length v.c1, .slice v.A2 c.r.length v.c2, .slice v.A3 c.p.length v.c3], .slice A n cc] w (RunPost c l w) := refrun_any m B n cc A c v l w h hok hm hl hf

set_option maxRecDepth 100000 in
set_option maxHeartbeats 1000000 in
theorem alive_any (m B n cc : Nat) (A : Option Addr) (c : Cl) (v : Vl) (l : List Ev) (w : World) (h : CL w B c v) (hok : Ok m c) (hm : m + n ≤ 90) (hl : Row w 0 4 A n (el l)) (hf : Fits c l) (hnp : ∀ j, j < n → (l.getD j v0).k ≠ 1) :
    Calls Try.prog 35 #[.agg (cv c v), .int .i64 1, .slice A n cc] w fun e w' => e = .returned (.bool (anyB (fun i => acc (rn c l l.length) i 1) (rn c l l.length).r.length)) ∧ Below w.heap.size w w' := by
  have hln : l.length = n := by have := hl.len; rw [el_len] at this; omega
  have HLN := Lib.hid hln
  have hn90 : n ≤ 90 := by omega
  have R0 := Lib.hid (heap_alloc_new w (.cells (cv c v) 25))
  have HB0 := Lib.hid (box_below w (.cells (cv c v) 25))
  have HC0 := Lib.hid (h.below HB0.out)
  have HL0 := Lib.hid (hl.below HB0.out)
  have HOK := Lib.hid hok
  have HF := Lib.hid hf
  have HNP := Lib.hid hnp
  have HOKR := Lib.hid (show Ok 90 (rn c l l.length) from (ok_rn hok hf _ (Nat.le_refl _)).mono (by omega))
  clear h hok hl hf hnp hln
  generalize hW0 : w.alloc (.cells (cv c v) 25) = W0 at *
  have HW0 := Lib.hid hW0
  clear hW0
  go_enter Try.func35, Try.ntmps35
  go_wp2_with fail
  rw [HW0.out]
  go_loopw [15] (fun ii wr => ∃ k : Nat, k ≤ n ∧ ii = .int .i64 k ∧ Below W0.heap.size W0 wr) (fun ii _ => n - (intOf ii).toNat)
  case atStart => exact ⟨0, by omega, rfl, Below.refl _ _⟩
  case round =>
    obtain ⟨k, hk, rfl, hbl⟩ := hrel
    have HBL := Lib.hid hbl
    by_cases hlt : k < n
    · obtain ⟨b, off, hA, -, hbk, d0, d1, d2, d3⟩ := (HL0.out.below hbl).evt hlt
      have hx := HNP.out k hlt
      have i0 : (0 : Int) ≤ (k : Int) := by omega
      have i1 : (k : Int) < (n : Int) := by omega
      generalize l.getD k v0 = x at *
      have k1 : ((x.k : Int) == 1) = false := beq_eq_false_iff_ne.2 (by omega)
      clear hx hbl
      subst hA
      go_wp2_with fail
      exact ⟨⟨k + 1, by omega, by go_num, HBL.out.trans ((box_below wr _).mono HBL.out.size)⟩, by simp [intOf]; omega⟩
    · obtain rfl : n = k := by omega
      have QK := Lib.hid ((hbl.block _ (row_lt R0.out)).trans R0.out)
      have HCK := Lib.hid (HC0.out.below hbl)
      have HLK := Lib.hid (HL0.out.below hbl)
      have HBK := Lib.hid (HB0.out.trans (hbl.mono HB0.out.size))
      clear hbl
      obtain ⟨c0, c1, c2, c3⟩ := cvCells _ _ _ _ _ _ QK.out
      go_wp2_with fail
      refine (refrun_x HCK.out HOK.out hm HLK.out HF.out).mono ?_
      rintro e w2 ⟨v2, rfl, hc2, hb2, -⟩
      generalize hCC : rn c l l.length = C at *
      have HCC := Lib.hid hCC
      clear hCC
      have S2 := Lib.hid (heap_alloc_new w2 (.cells (cv C v2) 25))
      have HC2 := Lib.hid (hc2.below (box_below w2 (.cells (cv C v2) 25)))
      have HB2 := Lib.hid ((HBK.out.trans (hb2.mono HBK.out.size)).trans ((box_below w2 (.cells (cv C v2) 25)).mono (Nat.le_trans HBK.out.size hb2.size)))
      clear hb2 hc2 c0 c1 c2 c3
      obtain ⟨c0, c1, c2, c3⟩ := cvCells _ _ _ _ _ _ S2.out
      go_wp2_with (with_reducible (show wpList _ _ _ (⟨none, .store 25 (.tmp 9) (.tmp 27), _, _, _, _⟩ :: _) _ _); refine wpList_store_row (o := ⟨none, .store 25 (.tmp 9) (.tmp 27), _, _, _, _⟩) rfl 25 (.tmp 9) (.tmp 27) rfl w2.heap.size (cv C v2) rfl rfl 25 zC (heap_alloc_new _ _) (info25 _ _) rfl (cv_one _ _) ?_; rw [new_set])
      clear c0 c1 c2 c3
      generalize w2.heap.size = G at *
      generalize w2.alloc (.cells (cv C v2) 25) = W3 at *
      go_loopw [35] (fun ii wr => ∃ k : Nat, k ≤ C.r.length ∧ ii = .int .i64 k ∧ (∀ j, j < k → acc C j 1 = false) ∧ Below W3.heap.size W3 wr) (fun ii _ => C.r.length - (intOf ii).toNat)
      case atStart => exact ⟨0, by omega, rfl, fun j h => absurd h (by omega), Below.refl _ _⟩
      case round =>
        obtain ⟨k, hk, rfl, hac, hbl⟩ := hrel
        have HBM := Lib.hid hbl
        have HAC := Lib.hid hac
        have QM := Lib.hid ((hbl.block _ (row_lt S2.out)).trans S2.out)
        have HCM := Lib.hid (HC2.out.below hbl)
        have HBN := Lib.hid (HB2.out.trans (hbl.mono HB2.out.size))
        have hr3 := HOKR.out.r2
        clear hbl hac
        by_cases hlt : k < C.r.length
        · obtain ⟨c0, c1, c2, c3⟩ := cvCells _ _ _ _ _ _ QM.out
          have hax := acc_x HCM.out HOKR.out hlt (by omega)
          have i0 : (0 : Int) ≤ (k : Int) := by omega
          have i1 : (k : Int) < (C.r.length : Int) := by omega
          have HAX := Lib.hid hax
          clear hax
          cases ha : acc C k 1 with
          | true =>
            have HA := Lib.hid ha
            rw [ha] at HAX
            clear ha
            go_wp2_with fail
            refine HAX.out.mono ?_
            rintro e w5 ⟨rfl, hb5⟩
            have HB5 := Lib.hid (HBN.out.trans (hb5.mono HBN.out.size))
            clear hb5
            go_wp2_with fail
            go_ret
            exact ⟨by rw [HCC.out, (any_iff _ _).2 ⟨k, hlt, HA.out⟩]; rfl, HB5.out⟩
          | false =>
            have HA := Lib.hid ha
            rw [ha] at HAX
            clear ha
            go_wp2_with fail
            refine HAX.out.mono ?_
            rintro e w5 ⟨rfl, hb5⟩
            have HB5 := Lib.hid (HBM.out.trans (hb5.mono HBM.out.size))
            clear hb5
            go_wp2_with fail
            exact ⟨⟨k + 1, by omega, by go_num, fun j hj => by
              by_cases e : j = k
              · rw [e]; exact HA.out
              · exact HAC.out j (by omega), HB5.out⟩, by simp [intOf]; omega⟩
        · obtain rfl : k = C.r.length := by omega
          go_wp2_with fail
          go_ret
          exact ⟨by rw [HCC.out, any_no HAC.out]; rfl, HBN.out⟩

theorem sync_acc2 {D : Cl} {k : Nat} (hn : has (newest D) 1 = false) (hk : k < D.r.length) (h : ∀ j, j < k → acc D j 1 = false) : ∀ j, j < k + 1 → acc (sy1 D k) j 1 = false := by
  intro j hj
  by_cases e : j = k
  · subst e
    rw [acc_sync hk]
    exact hn
  · have h2 := h j (by omega)
    show ((rd (D.r.set k (D.s.length - 1, true)) j).2 && has (D.s.getD (rd (D.r.set k (D.s.length - 1, true)) j).1 0) 1) = false
    rw [rd_set _ _ _ _ hk, if_neg e]
    exact h2

theorem evRow2 (W : World) (i : Nat) : Row (W.alloc (.cells #[.int .i64 3, .int .i64 (i : Int), .int .i64 0, .int .i64 0, .int .i64 1, .int .i64 0, .int .i64 0, .int .i64 2] 27)) 0 4 (some ⟨W.heap.size, 0, none⟩) 2 (el [⟨3, i, 0, 0⟩, ⟨1, 0, 0, 2⟩]) := by
  refine ⟨rfl, fun _ => ⟨W.heap.size, 0, rfl, Nat.zero_le _, by simp, fun j u hj => ?_⟩⟩
  rw [Nat.zero_add, cell_of_row _ _ _ _ _ _ (heap_alloc_new W _)]
  have e : (#[.int .i64 3, .int .i64 (i : Int), .int .i64 0, .int .i64 0, .int .i64 1, .int .i64 0, .int .i64 0, .int .i64 2] : Array Value).toList = el [⟨3, i, 0, 0⟩, ⟨1, 0, 0, 2⟩] := rfl
  rw [← e] at hj
  simpa using hj

def rvC (n i : Nat) : Cl := rn (nw n 1 false) [⟨3, i, 0, 0⟩, ⟨1, 0, 0, 2⟩] 2
theorem nw_len (n b : Nat) (f : Bool) : (nw n b f).r.length = n := by simp [nw]
theorem rvFits (n i : Nat) (hi : i < n) : Fits (nw n 1 false) [⟨3, i, 0, 0⟩, ⟨1, 0, 0, 2⟩] := by
  intro k hk
  have : k = 0 ∨ k = 1 := by simp at hk; omega
  rcases this with rfl | rfl
  · exact ⟨.inr (.inr (.inl ⟨rfl, by rw [rn, nw_len]; exact hi, rfl, rfl⟩)), rfl⟩
  · exact ⟨.inl ⟨rfl, rfl, rfl, by show 2 ≤ 3; omega⟩, rfl⟩
theorem rv_eq (n i : Nat) (hi : i < n) : rvC n i = ⟨false, [1, 2], List.replicate n (0, true), [0]⟩ := by
  have h0 : rd (List.replicate n (0, true)) i = (0, true) := by simp [rd, List.getD_eq_getElem?_getD, hi]
  show (⟨false, [1] ++ [2], List.replicate n (0, true), [] ++ [(rd (List.replicate n (0, true)) i).1]⟩ : Cl) = _
  rw [h0]
  rfl
theorem rv_ok (n i : Nat) (hn : 1 ≤ n) (hn2 : n ≤ 3) (hi : i < n) : Ok 2 (rvC n i) := ok_rn (ok_nw n 1 false hn hn2 (by omega)) (rvFits n i hi) 2 (by simp)

/-- What holds while the replicas are synced. -/
structure Rw (n k : Nat) (D : Cl) : Prop where
  f : D.f = false
  s : D.s = [1, 2]
  p : D.p = [0]
  r : D.r.length = n
  ok : Ok 2 D
  ac : ∀ j, j < k → acc D j 1 = false
theorem rw_start (n i : Nat) (hn : 1 ≤ n) (hn2 : n ≤ 3) (hi : i < n) : Rw n 0 (rvC n i) := by
  refine ⟨?_, ?_, ?_, ?_, rv_ok n i hn hn2 hi, fun j h => absurd h (by omega)⟩ <;> rw [rv_eq n i hi]
  simp
theorem rw_newest {n k : Nat} {D : Cl} (h : Rw n k D) : has (newest D) 1 = false := by
  unfold newest
  rw [h.s]
  decide
theorem rw_sync {n k : Nat} {D : Cl} (h : Rw n k D) (hk : k < n) : Rw n (k + 1) (sy1 D k) :=
  ⟨h.f, h.s, h.p, by rw [← h.r]; exact List.length_set, ok_sync h.ok (by rw [h.r]; exact hk), sync_acc2 (rw_newest h) (by rw [h.r]; exact hk) h.ac⟩
theorem rw_dead {n : Nat} {D : Cl} (h : Rw n n D) : dead D 1 = true := (dead_iff D 1).2 ⟨rw_newest h, fun i hi => h.ac i (by rw [← h.r]; exact hi)⟩
theorem rw_snap {n k : Nat} {D : Cl} (h : Rw n k D) : anyB (fun i => has (D.s.getD (D.p.getD i 0) 0) 1) D.p.length = true := by
  rw [h.s, h.p]
  decide
theorem one_fits {m : Nat} {C : Cl} {q : Nat} (h : Ok m C) (hq : q < C.p.length) : Fits C [⟨4, 0, q, 0⟩] := by
  intro k hk
  obtain rfl : k = 0 := by simp at hk; exact hk
  exact ⟨.inr (.inr (.inr ⟨rfl, h.r1, by show q ≤ C.p.length; omega, rfl⟩)), by
    show fitB C ⟨4, 0, q, 0⟩ = true
    simp [fitB]
    omega⟩
theorem one_alive {m : Nat} {C : Cl} {q : Nat} (h : Ok m C) (hf : C.f = false) (hh : has (C.s.getD (C.p.getD q 0) 0) 1 = true) : anyB (fun i => acc (rn C [⟨4, 0, q, 0⟩] 1) i 1) (rn C [⟨4, 0, q, 0⟩] 1).r.length = true := by
  have e : rn C [⟨4, 0, q, 0⟩] 1 = ⟨C.f, C.s, C.r.set 0 (C.p.getD q 0, !C.f), C.p⟩ := by
    show ap C ⟨4, 0, q, 0⟩ = _
    rw [ap, if_neg (by simp), if_neg (by simp), if_neg (by simp)]
  rw [e]
  refine (any_iff _ _).2 ⟨0, by have := h.r1; simp; omega, ?_⟩
  show ((rd (C.r.set 0 (C.p.getD q 0, !C.f)) 0).2 && has (C.s.getD (rd (C.r.set 0 (C.p.getD q 0, !C.f)) 0).1 0) 1) = true
  rw [rd_set _ _ _ _ h.r1, if_pos rfl, hf]
  simpa using hh

end Go.Proofs.Ytamcjhibdcbdnaa.Cl
