import Derived.Test.YtgaliinjjonlmaaDtRc
import Derived.BigRegion
import Derived.StillTailTactics
namespace Go.Proofs.Ytgaliinjjonlmaa.Dt
open Go.RowKit
open Go.Proofs.Ytgaliinjjonlmaa.Tp
set_option linter.unusedVariables false

theorem Apr.base {w : World} {base : List Nat} {os : List O} : Apr w base os 0 0 (.slice none 0 0) w := ⟨World.ownsRow_nil _ _ _ _, rfl, Below.refl _ _⟩

set_option maxRecDepth 100000 in
set_option maxHeartbeats 2000000 in
theorem refmade_any (A B : Option Addr) (n c N cb : Nat) (base : List Nat) (os : List O) (vs : List Value) (w : World) (h : OLies w A n os vs) (hv : ∀ j, j < n → VO N (os.getD j o0) (vs.getD j undef)) (ht : tot os n ≤ 60000) (hn : n ≤ 200) (hN : N ≤ 60000)
    (hb : By w (.slice B N cb) base) (hbl : base.length = N) :
    Calls Try.prog 26 #[.slice B N cb, .slice A n c] w fun e w' => ∃ v, e = .returned v ∧ w'.ownsRow w.heap.size 5 1 v (apl base os n).length (u8s (apl base os n)) ∧ Below w.heap.size w w' := by
  have HLI := Lib.hid (fun w' (hw : Below w.heap.size w w') => h.below hw)
  have HV := Lib.hid hv
  have HBY := Lib.hid (fun w' (hw : Below w.heap.size w w') => hb.below hw)
  have HBL := Lib.hid hbl
  have HOK : Hid (∀ j, j < n → OkO base.length (os.getD j o0)) := Lib.hid (fun j hj => by rw [hbl]; exact vo_ok (hv j hj) (h.by_ j hj))
  have HTM := Lib.hid (fun m hm => Nat.le_trans (tot_mono os m n hm) ht)
  clear h hv hb hbl ht
  go_enter Try.func26, Try.ntmps26
  go_wp2_with fail
  go_loopw [5, 6] (fun v ii wr => ∃ i m : Nat, i ≤ n ∧ ii = .int .i64 i ∧ Apr w base os i m v wr) (fun _ ii _ => n - (intOf ii).toNat)
  case atStart => exact ⟨0, 0, by omega, rfl, Apr.base⟩
  case round =>
    obtain ⟨i, m, hi, rfl, hap⟩ := hrel
    have HAP := Lib.hid hap
    by_cases hlt : i < n
    · obtain ⟨b, off, rfl, hbk, hc⟩ := (HLI.out _ hap.bl).mem (by omega)
      obtain ⟨c0, c1, c2⟩ := hc i hlt
      have hvo := HV.out i hlt
      have hby := (HLI.out wr hap.bl).by_ i hlt
      have hm2 : (apl base os (i + 1)).length ≤ 60000 := by
        rw [apl_len base os (i + 1) (fun j hj => HOK.out j (by omega))]
        exact HTM.out (i + 1) hlt
      have e1 : apl base os (i + 1) = apl base os i ++ ap base (os.getD i o0) := rfl
      rw [e1, List.length_append, hap.len] at hm2
      clear hc hap
      obtain ⟨⟨F, S, d⟩, ho⟩ : ∃ o, os.getD i o0 = o := ⟨_, rfl⟩
      obtain ⟨dv, hdv⟩ : ∃ v, vs.getD i undef = v := ⟨_, rfl⟩
      rw [ho] at c0 c1 hvo hby hm2 e1
      rw [hdv] at c2 hvo hby
      have HE := Lib.hid e1
      clear ho hdv e1
      rcases hvo with ⟨h2, h3, X, k, cc, rfl, hk⟩ | ⟨hS, rfl, h3, h4⟩
      · simp only at h2 h3
        subst h2
        subst h3
        have ea : ap base ⟨0, 0, d⟩ = d := by simp [ap]
        rw [ea] at hm2
        have HE2 := Lib.hid (HE.out.trans (by rw [ea]))
        have HD := Lib.hid hby
        rw [show ((0 : Nat) : Int) = 0 from rfl] at c1
        clear hby ea
        go_wp2_with (at_builtin; refine append_by rfl (.tmp 39) (.tmp 44) rfl w.heap.size _ (.slice X k cc) m (apl base os i) d rfl rfl HAP.out.row HD.out (by omega) HAP.out.bl.size ?_; intro v1 w3 own1 gr1; have HO1 := Lib.hid own1; have HG1 := Lib.hid gr1; clear own1 gr1)
        exact ⟨⟨i + 1, _, by omega, by go_num, by rw [HE2.out]; exact HO1.out, by rw [HE2.out, List.length_append, HAP.out.len], HAP.out.bl.grown HG1.out HAP.out.bl.size (fun g e => (HAP.out.row.lt g e).1)⟩, by simp [intOf]; omega⟩
      · simp only at hS h3 h4
        have s1 : decide ((0 : Int) < (S : Int)) = true := decide_eq_true (by omega)
        have p0 : (0 : Int) ≤ (i : Int) := by omega
        have p1 : (i : Int) < (n : Int) := by omega
        have hBf : ∃ b2 off2, B = some ⟨b2, off2, none⟩ ∧ N ≤ cb := by
          rcases (HBY.out w (Below.refl _ _)).2 with ⟨e, _⟩ | ⟨b2, off2, c2, e, h5, _⟩
          · cases e
            omega
          · cases e
            exact ⟨b2, off2, rfl, by rw [HBL.out] at h5; exact h5⟩
        obtain ⟨b2, off2, rfl, hNc⟩ := hBf
        have f0 : (0 : Int) ≤ (F : Int) := by omega
        have f1 : (F : Int) + (S : Int) ≤ (cb : Int) := by omega
        have f2 : (F : Int) ≤ (F : Int) + (S : Int) := by omega
        have fw : IntKind.i64.wrap ((F : Int) + (S : Int)) = (F : Int) + (S : Int) := by rw [IntKind.wrap_i64]; omega
        have hd : d = [] := by
          rcases hby.2 with ⟨_, e⟩ | ⟨_, _, _, e, _⟩
          · exact e
          · cases e
        subst hd
        have hlen : ((base.drop F).take S).length = S := by have := HBL.out; simp; omega
        have ea : ap base ⟨F, S, []⟩ = (base.drop F).take S := by simp [ap]
        rw [ea, hlen] at hm2
        have HE2 := Lib.hid (HE.out.trans (by rw [ea]))
        have HAD := Lib.hid (show Apr w base os i m _ wr.drew from HAP.out.below ((Below.refl _ _).drew))
        have HPB := Lib.hid (piece_by (HBY.out _ HAD.out.bl) HBL.out (show F + S ≤ N by omega))
        clear hby ea
        go_wp2_with fail
        go_still_tail 19, (by kernel_rfl)
        change wpList _ _ _ _ _ wr.drew
        rw [if_neg (show ¬ cb = F by omega), show ((F : Int) + (S : Int)).toNat - F = S by omega]
        refine append_by rfl (.tmp 19) (.tmp 37) rfl w.heap.size _ (.slice (some ⟨b2, off2 + F, none⟩) S (cb - F)) m (apl base os i) ((base.drop F).take S) rfl rfl HAD.out.row HPB.out (by rw [hlen]; omega) HAD.out.bl.size ?_
        intro v1 w3 own1 gr1
        have HO1 := Lib.hid own1
        have HG1 := Lib.hid gr1
        clear own1 gr1
        go_wp2_with fail
        exact ⟨⟨i + 1, _, by omega, by go_num, by rw [HE2.out]; exact HO1.out, by rw [HE2.out, List.length_append, HAP.out.len], HAD.out.bl.grown HG1.out HAD.out.bl.size (fun g e => (HAD.out.row.lt g e).1)⟩, by simp [intOf]; omega⟩
    · obtain rfl : n = i := by omega
      go_wp2
      go_ret
      have hm := HAP.out.len
      subst hm
      exact ⟨_, rfl, HAP.out.row, HAP.out.bl⟩

end Go.Proofs.Ytgaliinjjonlmaa.Dt
