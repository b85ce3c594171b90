import Derived.Test.YtgaliinjjonlmaaDtBk
namespace Go.Proofs.Ytgaliinjjonlmaa.Dt
open Go.RowKit
open Go.Proofs.Ytgaliinjjonlmaa.Tp
set_option linter.unusedVariables false

set_option maxRecDepth 100000 in
set_option maxHeartbeats 1000000 in
theorem amount_any (o : O) (v : Value) (N : Nat) (w : World) (h : VO N o v) (hb : By w v o.d) : Calls Try.prog 56 #[.agg #[.int .i64 (o.f : Int), .int .i64 (o.s : Int), v]] w fun e w' => e = .returned (.int .i64 (cnt o : Nat)) ∧ Below w.heap.size w w' := by
  have HB := Lib.hid (fun o => box_below w o)
  obtain ⟨F, S, d⟩ := o
  rcases h with ⟨h1, h2, B, k, cc, rfl, hk⟩ | ⟨hS, rfl, h3, h4⟩
  · simp only at h1 h2
    subst h1
    subst h2
    obtain ⟨A', c', e⟩ := hb.form
    cases e
    have e2 : cnt ⟨0, 0, d⟩ = d.length := if_neg (by simp)
    rw [e2]
    clear hb e2
    simp only
    rw [show ((0 : Nat) : Int) = 0 from rfl]
    go_enter Try.func56, Try.ntmps56
    go_wp2
    go_ret
    exact ⟨rfl, HB.out _⟩
  · simp only at hS h3 h4
    have e2 : cnt ⟨F, S, d⟩ = S := if_pos hS
    rw [e2]
    have s1 : (1 : Int) ≤ (S : Int) := by omega
    clear hb e2
    simp only
    go_enter Try.func56, Try.ntmps56
    go_wp2
    go_ret
    exact ⟨rfl, HB.out _⟩

set_option maxRecDepth 100000 in
set_option maxHeartbeats 1000000 in
theorem right_yes (o : O) (v : Value) (N : Nat) (w : World) (h : VO N o v) (hN : N ≤ 60000) : Calls Try.prog 57 #[.agg #[.int .i64 (o.f : Int), .int .i64 (o.s : Int), v], .int .i64 (N : Int)] w fun e w' => e = .returned (.bool true) ∧ Below w.heap.size w w' := by
  have HB := Lib.hid (fun o => box_below w o)
  obtain ⟨F, S, d⟩ := o
  rcases h with ⟨h1, h2, B, k, cc, rfl, hk⟩ | ⟨hS, rfl, h3, h4⟩
  · simp only at h1 h2
    subst h1
    subst h2
    simp only
    rw [show ((0 : Nat) : Int) = 0 from rfl]
    go_enter Try.func57, Try.ntmps57
    go_wp2
    go_ret
    exact ⟨by simp; omega, HB.out _⟩
  · simp only at hS h3 h4
    have s1 : (1 : Int) ≤ (S : Int) := by omega
    have s2 : (F : Int) ≤ (N : Int) := by omega
    have s3 : (S : Int) ≤ (N : Int) - (F : Int) := by omega
    have s4 : (0 : Int) ≤ (F : Int) := by omega
    simp only
    go_enter Try.func57, Try.ntmps57
    go_wp2
    go_ret
    exact ⟨by simp, HB.out _⟩

set_option maxRecDepth 100000 in
set_option maxHeartbeats 2000000 in
theorem refcheck_any (A B : Option Addr) (n c N cb : Nat) (os : List O) (vs : List Value) (w : World) (h : OLies w A n os vs) (hv : ∀ j, j < n → VO N (os.getD j o0) (vs.getD j undef)) (ht : tot os n ≤ 60000) (hn : n ≤ 200) (hN : N ≤ 60000) :
    Calls Try.prog 25 #[.slice B N cb, .slice A n c] w fun e w' => e = .returned (.int .i64 0) ∧ Below w.heap.size w w' := by
  have H := Lib.hid h
  have HV := Lib.hid hv
  have HT := Lib.hid (fun m hm => Nat.le_trans (tot_mono os m n hm) ht)
  have HAM := Lib.hid (fun i (hi : i < n) W (hW : Below w.heap.size w W) => amount_any (os.getD i o0) (vs.getD i undef) N W (hv i hi) ((h.by_ i hi).below hW))
  have HRI := Lib.hid (fun i (hi : i < n) W => right_yes (os.getD i o0) (vs.getD i undef) N W (hv i hi) hN)
  clear h hv ht
  go_enter Try.func25, Try.ntmps25
  go_wp2_with fail
  go_loopw [5, 6] (fun ll ii wr => ∃ i : Nat, i ≤ n ∧ ii = .int .i64 i ∧ ll = .int .i64 (65536 - (tot os i : Int)) ∧ Below w.heap.size w wr) (fun _ ii _ => n - (intOf ii).toNat)
  case atStart => exact ⟨0, by omega, rfl, by simp [tot], Below.refl _ _⟩
  case round =>
    obtain ⟨i, hi, rfl, rfl, hbl⟩ := hrel
    have HBL := Lib.hid hbl
    by_cases hlt2 : i < n
    · obtain ⟨b, off, rfl, hbk, hc⟩ := (H.out.below hbl).mem (by omega)
      obtain ⟨c0, c1, c2⟩ := hc i hlt2
      have h1 := HT.out (i + 1) (by omega)
      have e1 : tot os (i + 1) = tot os i + cnt (os.getD i o0) := rfl
      have ha1 := HAM.out i hlt2 wr hbl
      have ha2 := fun W (hW : Below wr.heap.size wr W) => HAM.out i hlt2 W (hbl.trans (hW.mono hbl.size))
      have hce := fun W (hW : Below wr.heap.size wr W) => (show W.cell? ⟨b, off + i * 3, none⟩ = _ ∧ W.cell? ⟨b, off + i * 3 + 1, none⟩ = _ ∧ W.cell? ⟨b, off + i * 3 + 2, none⟩ = _ from ⟨(hW.cell (p := ⟨b, _, none⟩) hbk).trans c0, (hW.cell (p := ⟨b, _, none⟩) hbk).trans c1, (hW.cell (p := ⟨b, _, none⟩) hbk).trans c2⟩)
      have HCE := Lib.hid hce
      rw [e1] at h1
      have HE := Lib.hid e1
      clear hc hbl hbk e1 hce
      generalize os.getD i o0 = o at *
      generalize vs.getD i undef = v at *
      generalize hs : tot os i = s at *
      generalize hk : cnt o = k at *
      have HA1 := Lib.hid ha1
      have HA2 := Lib.hid ha2
      have p1 : (k : Int) ≤ 65536 - (s : Int) := by omega
      have p2 : (s : Int) ≤ 65536 := by omega
      clear ha1 ha2 hs hk
      go_wp2_with fail
      refine HA1.out.mono ?_
      rintro e w3 ⟨rfl, hb3⟩
      obtain ⟨c0', c1', c2'⟩ := HCE.out w3 hb3
      have HB3 := Lib.hid hb3
      clear hb3 c0 c1 c2
      go_wp2_with fail
      refine (HA2.out w3 HB3.out).mono ?_
      rintro e w4 ⟨rfl, hb4⟩
      have HB4 := Lib.hid (HBL.out.trans ((HB3.out.trans (hb4.mono HB3.out.size)).mono HBL.out.size))
      clear hb4 c0' c1' c2'
      go_wp2_with fail
      exact ⟨⟨i + 1, by omega, by go_num, by rw [HE.out]; go_num, HB4.out⟩, by simp [intOf]; omega⟩
    · obtain rfl : n = i := by omega
      go_wp2_with fail
      go_loopw [7] (fun ii wr => ∃ i : Nat, i ≤ n ∧ ii = .int .i64 i ∧ Below w.heap.size w wr) (fun ii _ => n - (intOf ii).toNat)
      case atStart => exact ⟨0, by omega, rfl, HBL.out⟩
      case round =>
        obtain ⟨i, hi2, rfl, hbl⟩ := hrel
        have HBM := Lib.hid hbl
        by_cases hlt3 : i < n
        · obtain ⟨b, off, rfl, hbk, hc⟩ := (H.out.below hbl).mem (by omega)
          obtain ⟨c0, c1, c2⟩ := hc i hlt3
          have HR := Lib.hid (HRI.out i hlt3)
          clear hc hbl hbk
          generalize os.getD i o0 = o at *
          generalize vs.getD i undef = v at *
          go_wp2_with fail
          refine (HR.out _).mono ?_
          rintro e w3 ⟨rfl, hb3⟩
          have HB3 := Lib.hid (HBM.out.trans (hb3.mono HBM.out.size))
          clear hb3
          go_wp2_with fail
          exact ⟨⟨i + 1, by omega, by go_num, HB3.out⟩, by simp [intOf]; omega⟩
        · obtain rfl : n = i := by omega
          go_wp2
          go_ret
          exact ⟨rfl, HBM.out⟩

end Go.Proofs.Ytgaliinjjonlmaa.Dt
