import Derived.Test.YtgaliinjjonlmaaDtRaw7
import Derived.Test.YtgaliinjjonlmaaDtRm
namespace Go.Proofs.Ytgaliinjjonlmaa.Dt
open Go.RowKit
open Go.Proofs.Ytgaliinjjonlmaa.Tp
set_option linter.unusedVariables false

theorem own_base {w : World} {B B' e s k : Nat} {v : Value} {xs : List Value} (h : w.ownsRow B e s v k xs) (hb : B' ≤ B) : w.ownsRow B' e s v k xs := by
  refine ⟨h.1, ?_⟩
  rcases h.2 with h2 | ⟨g, cap, cur, e1, hg, rest⟩
  · exact .inl h2
  · exact .inr ⟨g, cap, cur, e1, Nat.le_trans hb hg, rest⟩

set_option maxRecDepth 100000 in
set_option maxHeartbeats 2000000 in
theorem refmade_raw (A B : Option Addr) (n c N cb : Nat) (base : List Nat) (rs : List R) (vs : List Value) (w : World) (h : RLies w A n rs vs) (hck : chk rs n N = 0) (hN : N ≤ 60000)
    (hb : By w (.slice B N cb) base) (hbl : base.length = N) :
    Calls Try.prog 26 #[.slice B N cb, .slice A n c] w fun e w' => ∃ v, e = .returned v ∧ w'.ownsRow w.heap.size 5 1 v (apl base (rs.map toO) n).length (u8s (apl base (rs.map toO) n)) ∧ Below w.heap.size w w' := by
  obtain ⟨hn, htt, hv⟩ := chk_zero hck
  have HLI := Lib.hid (fun w' (hw : Below w.heap.size w w') => h.below hw)
  have HLN := Lib.hid h.len
  have HV := Lib.hid hv
  have HTM := Lib.hid (apl_small h.len hbl hv htt)
  have HBY := Lib.hid (fun w' (hw : Below w.heap.size w w') => hb.below hw)
  have HBL := Lib.hid hbl
  clear h hv hb hbl htt hck
  go_enter Try.func26, Try.ntmps26
  go_wp2_with fail
  go_loopw [5, 6] (fun v ii wr => ∃ i m : Nat, i ≤ n ∧ ii = .int .i64 i ∧ Apr w base (rs.map toO) i m v wr) (fun _ ii _ => n - (intOf ii).toNat)
  case atStart => exact ⟨0, 0, by omega, rfl, Apr.base⟩
  case round =>
    obtain ⟨i, m, hi, rfl, hap⟩ := hrel
    have HAP := Lib.hid hap
    by_cases hlt : i < n
    · obtain ⟨b, off, rfl, hbk, hc⟩ := (HLI.out _ hap.bl).mem (by omega)
      obtain ⟨c0, c1, c2⟩ := hc i hlt
      have hvo := valid_wrg (HV.out i hlt)
      have hby := (HLI.out wr hap.bl).by_ i hlt
      have hm2 : (apl base (rs.map toO) (i + 1)).length ≤ 65536 := HTM.out (i + 1) hlt
      have e1 : apl base (rs.map toO) (i + 1) = apl base (rs.map toO) i ++ ap base (toO (rs.getD i r0)) := by rw [← toO_at rs i (by have := HLN.out; omega)]; rfl
      rw [e1, List.length_append, hap.len] at hm2
      clear hc hap
      obtain ⟨X, cc, hdv⟩ := hby.form
      rw [hdv] at c2 hby
      obtain ⟨⟨F, S, d⟩, ho⟩ : ∃ o, rs.getD i r0 = o := ⟨_, rfl⟩
      rw [ho] at c0 c1 c2 hvo hby hm2 e1
      simp only at c0 c1 c2 hby
      have HE := Lib.hid e1
      clear ho hdv e1
      rcases hvo with ⟨h2, h3, hk⟩ | ⟨hS, hF, h3, h4, hk⟩
      · simp only at h2 h3 hk
        subst h2
        subst h3
        simp only [toO, Int.toNat_zero] at HE hm2
        have ea : ap base ⟨0, 0, d⟩ = d := by simp [ap]
        rw [ea] at hm2
        have HE2 := Lib.hid (HE.out.trans (by rw [ea]))
        have HD := Lib.hid hby
        clear hby ea
        go_wp2_with (at_builtin; refine append_rb rfl (.tmp 39) (.tmp 44) rfl w.heap.size _ (.slice X d.length cc) m (apl base (rs.map toO) i) d rfl rfl HAP.out.row HD.out (by omega) HAP.out.bl.size ?_; intro v1 w3 own1 gr1; have HO1 := Lib.hid own1; have HG1 := Lib.hid gr1; clear own1 gr1)
        exact ⟨⟨i + 1, _, by omega, by go_num, by rw [HE2.out]; exact HO1.out, by rw [HE2.out, List.length_append, HAP.out.len], HAP.out.bl.grown HG1.out HAP.out.bl.size (fun g e => (HAP.out.row.lt g e).1)⟩, by simp [intOf]; omega⟩
      · simp only at hS hF h3 h4 hk
        obtain ⟨F, rfl⟩ : ∃ m : Nat, F = m := ⟨F.toNat, by omega⟩
        obtain ⟨S, rfl⟩ : ∃ m : Nat, S = m := ⟨S.toNat, by omega⟩
        have hdn : d = [] := List.eq_nil_of_length_eq_zero hk
        subst hdn
        simp only [toO, Int.toNat_natCast] at HE hm2
        have hS : 1 ≤ S := by omega
        have h3 : F ≤ N := by omega
        have h4 : S ≤ N - F := by omega
        have s1 : decide ((0 : Int) < (S : Int)) = true := decide_eq_true (by omega)
        have p0 : (0 : Int) ≤ (i : Int) := by omega
        have p1 : (i : Int) < (n : Int) := by omega
        have hBf : ∃ b2 off2, B = some ⟨b2, off2, none⟩ ∧ N ≤ cb := by
          rcases (HBY.out w (Below.refl _ _)).2 with ⟨e, _⟩ | ⟨b2, off2, c2, e, h5, _⟩
          · cases e
            omega
          · cases e
            exact ⟨b2, off2, rfl, by rw [HBL.out] at h5; exact h5⟩
        obtain ⟨b2, off2, rfl, hNc⟩ := hBf
        have f0 : (0 : Int) ≤ (F : Int) := by omega
        have f1 : (F : Int) + (S : Int) ≤ (cb : Int) := by omega
        have f2 : (F : Int) ≤ (F : Int) + (S : Int) := by omega
        have fw : IntKind.i64.wrap ((F : Int) + (S : Int)) = (F : Int) + (S : Int) := by rw [IntKind.wrap_i64]; omega
        have hlen : ((base.drop F).take S).length = S := by have := HBL.out; simp; omega
        have ea : ap base ⟨F, S, []⟩ = (base.drop F).take S := by simp [ap]
        rw [ea, hlen] at hm2
        have HE2 := Lib.hid (HE.out.trans (by rw [ea]))
        have HAD := Lib.hid (show Apr w base (rs.map toO) i m _ wr.drew from HAP.out.below ((Below.refl _ _).drew))
        have HPB := Lib.hid (piece_by (HBY.out _ HAD.out.bl) HBL.out (show F + S ≤ N by omega))
        clear hby ea
        go_wp2_with fail
        go_still_tail 19, (by kernel_rfl)
        change wpList _ _ _ _ _ wr.drew
        rw [if_neg (show ¬ cb = F by omega), show ((F : Int) + (S : Int)).toNat - F = S by omega]
        refine append_by rfl (.tmp 19) (.tmp 37) rfl w.heap.size _ (.slice (some ⟨b2, off2 + F, none⟩) S (cb - F)) m (apl base (rs.map toO) i) ((base.drop F).take S) rfl rfl HAD.out.row HPB.out (by rw [hlen]; omega) HAD.out.bl.size ?_
        intro v1 w3 own1 gr1
        have HO1 := Lib.hid own1
        have HG1 := Lib.hid gr1
        clear own1 gr1
        go_wp2_with fail
        exact ⟨⟨i + 1, _, by omega, by go_num, by rw [HE2.out]; exact HO1.out, by rw [HE2.out, List.length_append, HAP.out.len], HAD.out.bl.grown HG1.out HAD.out.bl.size (fun g e => (HAD.out.row.lt g e).1)⟩, by simp [intOf]; omega⟩
    · obtain rfl : n = i := by omega
      go_wp2
      go_ret
      have hm := HAP.out.len
      subst hm
      exact ⟨_, rfl, HAP.out.row, HAP.out.bl⟩


set_option maxRecDepth 100000 in
set_option maxHeartbeats 1000000 in
theorem refapply_raw (A B : Option Addr) (n c N cb : Nat) (base : List Nat) (rs : List R) (vs : List Value) (w : World) (h : RLies w A n rs vs) (hn : n ≤ 220) (hN : N ≤ 60000)
    (hb : By w (.slice B N cb) base) (hbl : base.length = N) :
    Calls Try.prog 21 #[.slice B N cb, .slice A n c] w (PRes w rs n N base) := by
  have HCK := Lib.hid (refcheck_raw A B n c N cb rs vs w h hn hN)
  by_cases hck : chk rs n N = 0
  case neg =>
    have HRES : Hid (∀ w', Below w.heap.size w w' → PRes w rs n N base (.returned (.tuple #[.slice none 0 0, .int .i64 (chk rs n N)])) w') := Lib.hid (fun w' hw => ⟨_, rfl, by rw [show apB rs n N base = [] from if_neg hck]; exact World.ownsRow_nil _ _ _ _, hw⟩)
    generalize PRes w rs n N base = post at *
    generalize chk rs n N = ck at *
    have hbe : (ck == 0) = false := beq_eq_false_iff_ne.2 hck
    clear h hb hbl
    go_enter Try.func21, Try.ntmps21
    go_wp2_with (go_at_call 25; refine HCK.out.mono ?_; rintro e w1 ⟨rfl, hb1⟩; have HB1 := Lib.hid hb1; clear hb1)
    exact HRES.out _ HB1.out
  case pos =>
  have HM := Lib.hid (fun w' (hw : Below w.heap.size w w') => refmade_raw A B n c N cb base rs vs w' (h.below hw) hck hN (hb.below hw) hbl)
  have HRES : Hid (∀ e w', (∃ v, e = .returned (.tuple #[v, .int .i64 0]) ∧ w'.ownsRow w.heap.size 5 1 v (apl base (rs.map toO) n).length (u8s (apl base (rs.map toO) n)) ∧ Below w.heap.size w w') → PRes w rs n N base e w') := Lib.hid (fun e w' ⟨v, h1, h2, h3⟩ => ⟨v, by rw [hck]; exact h1, by rw [show apB rs n N base = apl base (rs.map toO) n from if_pos hck]; exact h2, h3⟩)
  rw [hck] at HCK
  clear h hb hbl hck
  refine Calls.mono ?_ HRES.out
  go_enter Try.func21, Try.ntmps21
  go_wp2_with fail
  refine HCK.out.mono ?_
  rintro e w1 ⟨rfl, hb1⟩
  have HB1 := Lib.hid hb1
  clear hb1
  go_wp2_with fail
  refine (HM.out _ HB1.out).mono ?_
  rintro e w2 ⟨v, rfl, hrow, hb2⟩
  have HROW := Lib.hid hrow
  have HB2 := Lib.hid (HB1.out.trans (hb2.mono HB1.out.size))
  clear hrow hb2
  go_wp2_with fail
  go_ret2
  exact ⟨v, rfl, own_base HROW.out HB1.out.size, HB2.out⟩

end Go.Proofs.Ytgaliinjjonlmaa.Dt
