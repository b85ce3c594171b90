import Derived.Test.YtgaliinjjonlmaaDtRaw6
import Derived.Test.YtgaliinjjonlmaaDtApp
namespace Go.Proofs.Ytgaliinjjonlmaa.Dt
open Go.RowKit
open Go.Proofs.Ytgaliinjjonlmaa.Tp
set_option linter.unusedVariables false

def toO (r : R) : O := ⟨r.f.toNat, r.s.toNat, r.d⟩

theorem toO_at (rs : List R) (i : Nat) (h : i < rs.length) : (rs.map toO).getD i o0 = toO (rs.getD i r0) := by
  simp [List.getD_eq_getElem?_getD, h]

theorem valid_wrg {N : Nat} {r : R} (h : wrg N r = false) : (r.f = 0 ∧ r.s = 0 ∧ 0 < r.d.length) ∨ (1 ≤ r.s ∧ 0 ≤ r.f ∧ r.f ≤ N ∧ r.s ≤ N - r.f ∧ r.d.length = 0) := by
  obtain ⟨F, S, d⟩ := r
  simp only [wrg, Bool.not_eq_false'] at h
  simp only [rightB] at h
  by_cases h1 : 1 ≤ S
  · rw [if_pos h1] at h
    simp only [Bool.and_eq_true, decide_eq_true_eq] at h
    exact .inr ⟨h1, h.1.1.1, h.1.1.2, h.1.2, h.2⟩
  · rw [if_neg h1] at h
    simp only [Bool.and_eq_true, decide_eq_true_eq] at h
    exact .inl ⟨h.1.2, h.1.1, h.2⟩

theorem cnt_toO (r : R) : (cnt (toO r) : Int) = amt r := by
  obtain ⟨F, S, d⟩ := r
  show ((if 1 ≤ S.toNat then S.toNat else d.length : Nat) : Int) = if 1 ≤ S then S else (d.length : Int)
  by_cases h1 : 1 ≤ S
  · rw [if_pos h1, if_pos (by omega)]
    omega
  · rw [if_neg h1, if_neg (by omega)]

theorem tot_tt (rs : List R) : ∀ n, n ≤ rs.length → (tot (rs.map toO) n : Int) = tt rs n
  | 0, _ => rfl
  | n + 1, h => by
    have ih := tot_tt rs n (by omega)
    have e := toO_at rs n (by omega)
    simp only [tot, tt]
    rw [e]
    have := cnt_toO (rs.getD n r0)
    omega

theorem okO_of {N : Nat} {r : R} (h : wrg N r = false) : OkO N (toO r) := by
  rcases valid_wrg h with ⟨h1, h2, h3⟩ | ⟨h1, h2, h3, h4, h5⟩
  · exact .inl ⟨by simp [toO, h1], by simp [toO, h2], h3⟩
  · refine .inr ⟨?_, List.eq_nil_of_length_eq_zero h5, ?_, ?_⟩
    · show 1 ≤ r.s.toNat
      omega
    · show r.s.toNat ≤ N
      omega
    · show r.f.toNat ≤ N - r.s.toNat
      omega

theorem apl_small {rs : List R} {n N : Nat} {base : List Nat} (hl : rs.length = n) (hN : base.length = N) (hv : ∀ j, j < n → wrg N (rs.getD j r0) = false) (ht : tt rs n ≤ 65536) : ∀ m, m ≤ n → (apl base (rs.map toO) m).length ≤ 65536 := by
  intro m hm
  rw [apl_len base _ m (fun j hj => by rw [toO_at rs j (by omega), hN]; exact okO_of (hv j (by omega)))]
  have h1 := tot_tt rs m (by omega)
  have h2 := tt_mono rs m n hm
  omega

def apB (rs : List R) (n N : Nat) (base : List Nat) : List Nat := if chk rs n N = 0 then apl base (rs.map toO) n else []

/-- What Apply hands back. -/
def PRes (w : World) (rs : List R) (n N : Nat) (base : List Nat) (e : Ending) (w' : World) : Prop := ∃ v, e = .returned (.tuple #[v, .int .i64 (chk rs n N)]) ∧ w'.ownsRow w.heap.size 5 1 v (apB rs n N base).length (u8s (apB rs n N base)) ∧ Below w.heap.size w w'

theorem chk_zero {rs : List R} {n N : Nat} (h : chk rs n N = 0) : n ≤ 200 ∧ tt rs n ≤ 65536 ∧ ∀ j, j < n → wrg N (rs.getD j r0) = false := by
  unfold chk at h
  by_cases h1 : 200 < n
  · rw [if_pos h1] at h
    omega
  · rw [if_neg h1] at h
    by_cases h2 : 65536 < tt rs n
    · rw [if_pos h2] at h
      omega
    · rw [if_neg h2] at h
      by_cases h3 : anyR (wrg N) rs n = true
      · rw [if_pos h3] at h
        omega
      · exact ⟨by omega, by omega, anyR_no (by simpa using h3)⟩

set_option maxRecDepth 100000 in
set_option maxHeartbeats 4000000 in
theorem apply_raw (A B : Option Addr) (n c N cb : Nat) (base : List Nat) (rs : List R) (vs : List Value) (w : World) (h : RLies w A n rs vs) (hn : n ≤ 220) (hN : N ≤ 60000)
    (hb : By w (.slice B N cb) base) (hbl : base.length = N) :
    Calls Try.prog 20 #[.slice B N cb, .slice A n c] w (PRes w rs n N base) := by
  have HCK := Lib.hid (check_raw A B n c N cb rs vs w h hn hN)
  have HLI := Lib.hid (fun w' (hw : Below w.heap.size w w') => h.below hw)
  have HLN := Lib.hid h.len
  have HBY := Lib.hid (fun w' (hw : Below w.heap.size w w') => hb.below hw)
  have HBL := Lib.hid hbl
  by_cases hck : chk rs n N = 0
  case neg =>
    have HRES : Hid (∀ w', Below w.heap.size w w' → PRes w rs n N base (.returned (.tuple #[.slice none 0 0, .int .i64 (chk rs n N)])) w') := Lib.hid (fun w' hw => ⟨_, rfl, by rw [show apB rs n N base = [] from if_neg hck]; exact World.ownsRow_nil _ _ _ _, hw⟩)
    generalize PRes w rs n N base = post at *
    generalize chk rs n N = ck at *
    have hbe : (ck == 0) = false := beq_eq_false_iff_ne.2 hck
    clear h hb hbl
    go_enter Try.func20, Try.ntmps20
    go_wp2_with (go_at_call 22; refine HCK.out.mono ?_; rintro e w1 ⟨rfl, hb1⟩; have HB1 := Lib.hid hb1; clear hb1)
    exact HRES.out _ HB1.out
  case pos =>
  obtain ⟨hn2, htt, hv⟩ := chk_zero hck
  have HV := Lib.hid hv
  have HTM := Lib.hid (apl_small h.len hbl hv htt)
  have HRES : Hid (∀ e w', (∃ v, e = .returned (.tuple #[v, .int .i64 0]) ∧ w'.ownsRow w.heap.size 5 1 v (apl base (rs.map toO) n).length (u8s (apl base (rs.map toO) n)) ∧ Below w.heap.size w w') → PRes w rs n N base e w') := Lib.hid (fun e w' ⟨v, h1, h2, h3⟩ => ⟨v, by rw [hck]; exact h1, by rw [show apB rs n N base = apl base (rs.map toO) n from if_pos hck]; exact h2, h3⟩)
  rw [hck] at HCK
  clear h hv hb hbl htt hck
  refine Calls.mono ?_ HRES.out
  go_enter Try.func20, Try.ntmps20
  go_wp2_with (go_at_call 22; refine HCK.out.mono ?_; rintro e w1 ⟨rfl, hb1⟩; have HB1 := Lib.hid hb1; clear hb1)
  go_loopw [7, 18] (fun v ii wr => ∃ i m : Nat, i ≤ n ∧ ii = .int .i64 i ∧ Apr w base (rs.map toO) i m v wr) (fun _ ii _ => n - (intOf ii).toNat)
  case atStart => exact ⟨0, 0, by omega, rfl, World.ownsRow_nil _ _ _ _, rfl, HB1.out⟩
  case round =>
    obtain ⟨i, m, hi, rfl, hap⟩ := hrel
    have HAP := Lib.hid hap
    by_cases hlt : i < n
    · obtain ⟨b, off, rfl, hbk, hc⟩ := (HLI.out _ hap.bl).mem (by omega)
      obtain ⟨c0, c1, c2⟩ := hc i hlt
      have hvo := valid_wrg (HV.out i hlt)
      have hby := fun w' hw => (HLI.out w' hw).by_ i hlt
      have hm : m ≤ 65536 := by
        rw [← hap.len]
        exact HTM.out i hi
      have hm2 : (apl base (rs.map toO) (i + 1)).length ≤ 65536 := HTM.out (i + 1) hlt
      have e1 : apl base (rs.map toO) (i + 1) = apl base (rs.map toO) i ++ ap base (toO (rs.getD i r0)) := by rw [← toO_at rs i (by have := HLN.out; omega)]; rfl
      rw [e1, List.length_append, hap.len] at hm2
      clear hc hap
      obtain ⟨X, cc, hdv⟩ := (hby _ HAP.out.bl).form
      obtain ⟨⟨F, S, d⟩, ho⟩ : ∃ o, rs.getD i r0 = o := ⟨_, rfl⟩
      rw [hdv] at c2
      rw [ho] at c0 c1 c2 hvo hm2 e1
      simp only at c0 c1 c2
      have hby2 : ∀ w', Below w.heap.size w w' → Rb w' (.slice X d.length cc) d := fun w' hw => by
        have h1 := hby w' hw
        rw [hdv, ho] at h1
        exact h1
      have HE := Lib.hid e1
      have HD := Lib.hid hby2
      clear hby hby2 ho hdv e1
      have HAB := Lib.hid (fun o => HAP.out.below (box_below wr o))
      rcases hvo with ⟨h2, h3, hk⟩ | ⟨hS, hF, h3, h4, hk⟩
      · simp only at h2 h3 hk
        subst h2
        subst h3
        simp only [toO, Int.toNat_zero] at HE hm2
        simp only [ap, List.length_append, List.drop_zero, List.take_zero, List.length_nil] at hm2
        rcases (HBY.out w (Below.refl _ _)).2 with ⟨eB, eb⟩ | ⟨b2, off2, c2', eB, h5, _⟩
        · cases eB
          have hpb : ∀ w', Below w.heap.size w w' → By w' (.slice none 0 0) ([] : List Nat) := fun w' hw => ⟨fun x hx => by simp at hx, .inl ⟨rfl, rfl⟩⟩
          have hpl : (([] : List Nat)).length = 0 := by rfl
          have HPB := Lib.hid hpb
          clear hpb
          go_wp2_with (first
            | (at_builtin; refine append_rb rfl (.tmp 22) (.tmp 31) rfl w.heap.size _ (.slice none 0 0) m (apl base (rs.map toO) i) ([] : List Nat) rfl rfl (HAB.out _).row (HPB.out _ (HAB.out _).bl).rb (by rw [hpl]; omega) (HAB.out _).bl.size ?_; intro v1 w3 own1 gr1; obtain ⟨hbx, hb3⟩ := HAP.out.box gr1; obtain ⟨q0, q1, q2⟩ := opCells _ _ _ _ _ _ _ hbx; have HO1 := Lib.hid own1; have HG1 := Lib.hid gr1; have HB3 := Lib.hid hb3; clear own1 gr1 hbx hb3)
            | (at_builtin; refine append_rb rfl (.tmp 33) (.tmp 35) rfl w.heap.size _ (.slice X d.length cc) (m + (([] : List Nat)).length) (apl base (rs.map toO) i ++ ([] : List Nat)) d rfl rfl HO1.out (HD.out _ HB3.out) (by rw [hpl]; omega) HB3.out.size ?_; intro v2 w4 own2 gr2; have HO2 := Lib.hid own2; have HG2 := Lib.hid gr2; clear own2 gr2))
          exact ⟨⟨i + 1, _, by omega, by go_num, HAP.out.done HE.out HG1.out HO1.out HO2.out HG2.out⟩, by simp [intOf]; omega⟩
        · cases eB
          have hpb : ∀ w', Below w.heap.size w w' → By w' (.slice (some ⟨b2, off2, none⟩) 0 cb) ([] : List Nat) := fun w' hw => by
            have := piece_by (f := 0) (s := 0) (HBY.out w' hw) HBL.out (by omega)
            simpa using this
          have hc0 : (0 : Int) ≤ (cb : Int) := by omega
          have hpl : (([] : List Nat)).length = 0 := by rfl
          have HPB := Lib.hid hpb
          clear hpb
          go_wp2_with (first
            | (at_builtin; refine append_rb rfl (.tmp 22) (.tmp 31) rfl w.heap.size _ (.slice (some ⟨b2, off2, none⟩) 0 cb) m (apl base (rs.map toO) i) ([] : List Nat) rfl rfl (HAB.out _).row (HPB.out _ (HAB.out _).bl).rb (by rw [hpl]; omega) (HAB.out _).bl.size ?_; intro v1 w3 own1 gr1; obtain ⟨hbx, hb3⟩ := HAP.out.box gr1; obtain ⟨q0, q1, q2⟩ := opCells _ _ _ _ _ _ _ hbx; have HO1 := Lib.hid own1; have HG1 := Lib.hid gr1; have HB3 := Lib.hid hb3; clear own1 gr1 hbx hb3)
            | (at_builtin; refine append_rb rfl (.tmp 33) (.tmp 35) rfl w.heap.size _ (.slice X d.length cc) (m + (([] : List Nat)).length) (apl base (rs.map toO) i ++ ([] : List Nat)) d rfl rfl HO1.out (HD.out _ HB3.out) (by rw [hpl]; omega) HB3.out.size ?_; intro v2 w4 own2 gr2; have HO2 := Lib.hid own2; have HG2 := Lib.hid gr2; clear own2 gr2))
          exact ⟨⟨i + 1, _, by omega, by go_num, HAP.out.done HE.out HG1.out HO1.out HO2.out HG2.out⟩, by simp [intOf]; omega⟩
      · simp only at hS hF h3 h4 hk
        obtain ⟨F, rfl⟩ : ∃ m : Nat, F = m := ⟨F.toNat, by omega⟩
        obtain ⟨S, rfl⟩ : ∃ m : Nat, S = m := ⟨S.toNat, by omega⟩
        have hdn : d = [] := List.eq_nil_of_length_eq_zero hk
        subst hdn
        simp only [toO, Int.toNat_natCast] at HE hm2
        have hS : 1 ≤ S := by omega
        have h3 : F ≤ N := by omega
        have h4 : S ≤ N - F := by omega
        have hB : ∃ b2 off2, B = some ⟨b2, off2, none⟩ ∧ N ≤ cb := by
          rcases (HBY.out w (Below.refl _ _)).2 with ⟨e, _⟩ | ⟨b2, off2, c2, e, h5, _⟩
          · cases e
            omega
          · cases e
            exact ⟨b2, off2, rfl, by rw [HBL.out] at h5; exact h5⟩
        obtain ⟨b2, off2, rfl, hNc⟩ := hB
        have hlen : ((base.drop F).take S).length = S := by have := HBL.out; simp; omega
        have f0 : (0 : Int) ≤ (F : Int) := by omega
        have f1 : (F : Int) + (S : Int) ≤ (cb : Int) := by omega
        have f2 : (F : Int) ≤ (F : Int) + (S : Int) := by omega
        have hpb : ∀ w', Below w.heap.size w w' → By w' (.slice (some ⟨b2, off2 + F, none⟩) (F + S - F) (cb - F)) ((base.drop F).take S) := fun w' hw => by
          rw [Nat.add_sub_cancel_left]
          exact piece_by (HBY.out w' hw) HBL.out (by omega)
        simp only [ap, List.length_append, hlen] at hm2
        have hpl : (((base.drop F).take S)).length = S := by exact hlen
        have HPB := Lib.hid hpb
        clear hpb
        go_wp2_with (first
          | (at_builtin; refine append_rb rfl (.tmp 22) (.tmp 31) rfl w.heap.size _ (.slice (some ⟨b2, off2 + F, none⟩) (F + S - F) (cb - F)) m (apl base (rs.map toO) i) ((base.drop F).take S) rfl rfl (HAB.out _).row (HPB.out _ (HAB.out _).bl).rb (by rw [hpl]; omega) (HAB.out _).bl.size ?_; intro v1 w3 own1 gr1; obtain ⟨hbx, hb3⟩ := HAP.out.box gr1; obtain ⟨q0, q1, q2⟩ := opCells _ _ _ _ _ _ _ hbx; have HO1 := Lib.hid own1; have HG1 := Lib.hid gr1; have HB3 := Lib.hid hb3; clear own1 gr1 hbx hb3)
          | (at_builtin; refine append_rb rfl (.tmp 33) (.tmp 35) rfl w.heap.size _ (.slice X 0 cc) (m + (((base.drop F).take S)).length) (apl base (rs.map toO) i ++ ((base.drop F).take S)) [] rfl rfl HO1.out (HD.out _ HB3.out) (by rw [hpl]; omega) HB3.out.size ?_; intro v2 w4 own2 gr2; have HO2 := Lib.hid own2; have HG2 := Lib.hid gr2; clear own2 gr2))
        exact ⟨⟨i + 1, _, by omega, by go_num, HAP.out.done HE.out HG1.out HO1.out HO2.out HG2.out⟩, by simp [intOf]; omega⟩
    · obtain rfl : n = i := by omega
      go_wp2
      go_ret2
      have hm := HAP.out.len
      subst hm
      exact ⟨_, rfl, HAP.out.row, HAP.out.bl⟩


end Go.Proofs.Ytgaliinjjonlmaa.Dt
