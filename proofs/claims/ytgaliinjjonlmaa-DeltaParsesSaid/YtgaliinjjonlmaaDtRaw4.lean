import Derived.Test.YtgaliinjjonlmaaDtRaw3
import Derived.Deep.RegionHeld3
import Derived.Deep.AppendLies
namespace Go.Proofs.Ytgaliinjjonlmaa.Dt
open Go.RowKit
open Go.Proofs.Ytgaliinjjonlmaa.Tp
set_option linter.unusedVariables false

theorem own_bel {w w' : World} {B e s k : Nat} {v : Value} {xs : List Value} (h : w.ownsRow B e s v k xs) (hb : Below w.heap.size w w') : w'.ownsRow B e s v k xs :=
  h.kept (row := none) ⟨hb.os, hb.tape, hb.output, hb.size, fun k hk _ => hb.block k hk⟩ (by cases hv : v.ownBlock <;> simp)

/-- 'append(out, xs...)' inside a region that draws its order. -/
theorem step_by {ops : Array Oper} {o : Oper} {a : Act} {w : World} {K : Act → World → Prop} {Q : Exit → Act → World → Prop} {E : Prop} (hgd : o.guard = none) (s x : Operand)
    (ho : o.op = .call { callee := .builtin .append, args := #[s, x], argTypes := #[23, 23] }) (base : Nat) (v v2 : Value) (n : Nat) (xs bs : List Nat) (hs : a.eval s = v) (hx : a.eval x = v2)
    (hown : w.ownsRow base 5 1 v n (u8s xs)) (hby : By w v2 bs) (h0 : 0 < bs.length) (h63 : n + bs.length ≤ 1000000) (hbase : base ≤ w.heap.size)
    (h : ∀ v' w', w'.ownsRow base 5 1 v' (n + bs.length) (u8s (xs ++ bs)) → w.grownBy w' v.ownBlock → K (a.put o.dst v') w') :
    if Region.wanted o (yielded ops a.tmps) = true then Oper.wp Try.prog o a w K Q else E := by
  obtain ⟨i0, hi, hz0, hz1, hz2⟩ := info_parts5 info5
  rcases hby.2 with ⟨rfl, rfl⟩ | ⟨b, off, c, rfl, h1, h2, h3, h4⟩
  · simp at h0
  · refine step_append_lies w hgd s x 23 ho base 5 i0 (.int .u8 0) 1 1 Try.underlying23 hi hz0 hz1 hz2 rfl (by decide) v n (u8s xs) hs hown ⟨b, off, none⟩ bs.length c (u8s bs) hx (by rw [u8s_len, Nat.mul_one]) (fun j u hj => ?_) (u8s_one bs) h0 (by unfold maxLen; omega) (by omega) hbase _ rfl ?_
    · obtain ⟨hjl, rfl⟩ := u8s_at bs j u hj
      have ea : (⟨b, off, none⟩ : Addr).add j = ⟨b, off + j, none⟩ := by unfold Addr.add; split <;> simp_all
      rw [ea]
      exact h4 j hjl
    · intro g cap w' k1 k2 _ _
      rw [u8s_app] at k1
      exact h _ w' k1 k2

theorem u8w (n : Int) : IntKind.u8.wrap n = n % 256 := by
  rw [IntKind.wrap_u8]

theorem cell_al {w : World} {a : Addr} {v : Value} (h : w.cell? a = some v) (o : Obj) : (w.alloc o).cell? a = some v := (World.cell?_alloc_lt w _ _ (block_lt_of_cell h)).trans h

theorem rightB_eq {r : R} (hl : lar r = false) : rightB 1073741824 r.f r.s r.d.length = !bad r := by
  obtain ⟨F, S, d⟩ := r
  simp [lar, larB] at hl
  rw [Bool.eq_iff_iff]
  simp only [rightB, bad, cpyB, insB]
  by_cases h1 : 1 ≤ S
  · have h2 : ¬ S = 0 := by omega
    simp [h1, h2]
    omega
  · simp [h1]
    omega

set_option maxRecDepth 100000 in
set_option maxHeartbeats 4000000 in
theorem refformat_raw (A : Option Addr) (n c : Nat) (rs : List R) (vs : List Value) (w : World) (h : RLies w A n rs vs) (hf : few rs n true) :
    Calls Try.prog 28 #[.slice A n c] w (FRes w rs n) := by
  obtain ⟨hn, hd⟩ := hf rfl
  have H := Lib.hid h
  have HDA := Lib.hid hd
  clear h hf hd
  by_cases h200 : 200 < n
  · have hi : (200 : Int) < (n : Int) := by omega
    have HE : Hid (fmtE rs n = 3) := Lib.hid (if_pos h200)
    go_enter Try.func28, Try.ntmps28
    go_wp2_with fail
    go_ret2
    exact fres_err HE.out (by decide) (Below.refl _ _)
  have hi : ¬ (200 : Int) < (n : Int) := by omega
  go_enter Try.func28, Try.ntmps28
  go_wp2_with fail
  go_loopw [4] (fun ii wr => ∃ i : Nat, i ≤ n ∧ ii = .int .i64 i ∧ (∀ j, j < i → lar (rs.getD j r0) = false) ∧ wr = w) (fun ii _ => n - (intOf ii).toNat)
  case atStart => exact ⟨0, by omega, rfl, fun j hj => absurd hj (by omega), rfl⟩
  case round =>
    obtain ⟨i, hi2, rfl, hno, rfl⟩ := hrel
    have HNO := Lib.hid hno
    by_cases hlt : i < n
    · obtain ⟨b, off, rfl, hbk, hc⟩ := H.out.mem (by omega)
      obtain ⟨c0, c1, c2⟩ := hc i hlt
      obtain ⟨B, cc, hv⟩ := (H.out.by_ i hlt).form
      rw [hv] at c2
      have HQ1 : Hid (lar (rs.getD i r0) = false → ∀ j, j < i + 1 → lar (rs.getD j r0) = false) := Lib.hid (fun e => no_more hno e)
      have HQ2 : Hid (lar (rs.getD i r0) = true → fmtE rs n = 3) := Lib.hid (fun e => by simp [fmtE, h200, anyR_yes hlt e])
      clear hc hv hno
      obtain ⟨⟨F, S, d⟩, ho⟩ : ∃ o, rs.getD i r0 = o := ⟨_, rfl⟩
      rw [ho] at c0 c1 c2 HQ1 HQ2
      simp only [lar, larB] at HQ1 HQ2
      simp only at c0 c1 c2
      have HO := Lib.hid ho
      clear ho
      by_cases g1 : 65536 < F
      · have HX := Lib.hid (HQ2.out (by simp [g1]))
        go_wp2_with fail
        go_ret2
        exact fres_err HX.out (by decide) (Below.refl _ _)
      · by_cases g2 : 65536 < S
        · have HX := Lib.hid (HQ2.out (by simp [g2]))
          go_wp2_with fail
          go_ret2
          exact fres_err HX.out (by decide) (Below.refl _ _)
        · by_cases g3 : 65536 < d.length
          · have g3i : (65536 : Int) < (d.length : Int) := by omega
            have HX := Lib.hid (HQ2.out (by simp [g3]))
            go_wp2_with fail
            go_ret2
            exact fres_err HX.out (by decide) (Below.refl _ _)
          · have g3i : ¬ (65536 : Int) < (d.length : Int) := by omega
            have HX := Lib.hid (HQ1.out (by simp; omega))
            go_wp2_with fail
            exact ⟨⟨i + 1, by omega, by go_num, HX.out, trivial⟩, by simp [intOf]; omega⟩
    · obtain rfl : i = n := by omega
      rename World => w0
      have hla : anyR lar rs i = false := anyR_none HNO.out
      have HLA := Lib.hid hla
      have HT : Hid (∀ k, k ≤ i → (fmR rs k).length ≤ 6000) := Lib.hid (fun k hk => by
        have h1 := fmR_len rs k
        have h2 := dat_mono rs k i hk
        have h3 := HDA.out (fun j hj => valid_len (HNO.out j hj))
        omega)
      clear hno hla
      go_wp2_with fail
      go_loopw [5, 6] (fun v ii wr => ∃ k : Nat, k ≤ i ∧ ii = .int .i64 k ∧ (∀ j, j < k → bad (rs.getD j r0) = false) ∧ wr.ownsRow w0.heap.size 5 1 v (fmR rs k).length (u8s (fmR rs k)) ∧ Below w0.heap.size w0 wr) (fun _ ii _ => i - (intOf ii).toNat)
      case atStart => exact ⟨0, by omega, rfl, fun j hj => absurd hj (by omega), World.ownsRow_nil _ _ _ _, Below.refl _ _⟩
      case round =>
        obtain ⟨k, hk, rfl, hnb, hrow, hbl⟩ := hrel
        have HROW := Lib.hid hrow
        have HNB := Lib.hid hnb
        have HBL := Lib.hid hbl
        clear hrow
        by_cases hlt : k < i
        · obtain ⟨b, off, rfl, hbk, hc⟩ := (H.out.below hbl).mem (by omega)
          obtain ⟨c0, c1, c2⟩ := hc k hlt
          have hrb := H.out.by_ k hlt
          obtain ⟨X, cc, hv⟩ := hrb.form
          have hla := HNO.out k hlt
          have ht := HT.out (k + 1) hlt
          have e1 : fmR rs (k + 1) = fmR rs k ++ fmr (rs.getD k r0) := rfl
          have HQ1 : Hid (bad (rs.getD k r0) = false → ∀ j, j < k + 1 → bad (rs.getD j r0) = false) := Lib.hid (fun e => no_more hnb e)
          have HQ2 : Hid (bad (rs.getD k r0) = true → fmtE rs i = 2) := Lib.hid (fun e => by
            have h1 := anyR_yes hlt e
            simp [fmtE, h200, HLA.out, h1])
          rw [hv] at c2 hrb
          clear hc hv hnb hbl
          obtain ⟨⟨F, S, d⟩, ho⟩ : ∃ o, rs.getD k r0 = o := ⟨_, rfl⟩
          rw [ho] at c0 c1 c2 HQ1 HQ2 hrb hla e1
          simp only at c0 c1 c2 hrb
          rw [e1, List.length_append] at ht
          have hri := fun W => right_raw 1073741824 F S X d.length cc W (by decide) (by decide)
          have hre := rightB_eq hla
          simp only at hre
          obtain ⟨q, hq⟩ : ∃ q, bad ⟨F, S, d⟩ = q := ⟨_, rfl⟩
          rw [hre, hq] at hri
          have HRI := Lib.hid hri
          have HRB : Hid (Rb w0 (.slice X d.length cc) d) := Lib.hid hrb
          have HE1 := Lib.hid e1
          have HQ := Lib.hid hq
          have hla2 := Lib.hid hla
          have HBX := Lib.hid (HBL.out.trans ((box_below wr (.cells #[.int .i64 F, .int .i64 S, .slice X d.length cc] 54)).mono HBL.out.size))
          have HR1 := Lib.hid (heap_alloc_new wr (.cells #[.int .i64 F, .int .i64 S, .slice X d.length cc] 54))
          clear hri hrb e1 hq hla hre ho
          cases q
          · obtain hvc := valid_cases HQ.out hla2.out
            have HQ3 := Lib.hid (HQ1.out HQ.out)
            clear HQ1 HQ2
            rcases hvc with ⟨h2, h3, h4⟩ | ⟨hF, hF2, hS, hS2, h4⟩
            · simp only at h2 h3 h4
              subst h2
              subst h3
              go_wp2_with (go_at_call 57; refine (HRI.out _).mono ?_; rintro e w2 ⟨rfl, hb2⟩; have hr2 := (hb2.block wr.heap.size (by simp)).trans HR1.out; have HB2 := Lib.hid ((box_below wr (.cells #[.int .i64 0, .int .i64 0, .slice X d.length cc] 54)).trans (hb2.mono (box_below wr _).size)); clear hb2; obtain ⟨d0, d1, d2⟩ := opCells _ _ _ _ _ _ _ hr2; have HR2 := Lib.hid hr2; clear hr2)
              have ef : fmr ⟨0, 0, d⟩ = [0] ++ num d.length ++ d := if_neg (by simp)
              rw [ef] at ht HE1
              simp only [List.length_append, num_len, List.length_singleton] at ht
              have s3 : d.length ≤ 65536 := valid_len hla2.out
              have HO2 := Lib.hid (own_bel HROW.out HB2.out)
              clear ef hla2 HQ c0 c1 c2 d0 d1
              generalize fmR rs k = xs at *
              have hlit : By ((w2.alloc (.cells #[.int .u8 0, .int .u8 (IntKind.u8.wrap ((d.length : Int) / 65536)), .int .u8 (IntKind.u8.wrap ((d.length : Int) / 256)), .int .u8 (IntKind.u8.wrap (d.length : Int))] 5)).drew) (.slice (some ⟨w2.heap.size, 0, none⟩) 4 4) ([0] ++ num d.length) :=
                (by_lit (w := w2) (bs := [0] ++ num d.length) (by simp [num]; omega) (by simp only [u8s, num, List.map, List.singleton_append, u8w]; simp <;> omega) (by simp [num])).below ((Below.refl _ _).drew)
              have hown : ((w2.alloc (.cells #[.int .u8 0, .int .u8 (IntKind.u8.wrap ((d.length : Int) / 65536)), .int .u8 (IntKind.u8.wrap ((d.length : Int) / 256)), .int .u8 (IntKind.u8.wrap (d.length : Int))] 5)).drew).ownsRow w0.heap.size 5 1 u5 xs.length (u8s xs) := own_bel HO2.out (box_below w2 _).drew
              have hbs : w0.heap.size ≤ ((w2.alloc (.cells #[.int .u8 0, .int .u8 (IntKind.u8.wrap ((d.length : Int) / 65536)), .int .u8 (IntKind.u8.wrap ((d.length : Int) / 256)), .int .u8 (IntKind.u8.wrap (d.length : Int))] 5)).drew).heap.size := Nat.le_trans HBL.out.size (Nat.le_trans HB2.out.size (box_below w2 _).drew.size)
              have hl4 : xs.length + ([0] ++ num d.length).length ≤ 1000000 := by simp [num]; omega
              have HLIT := Lib.hid hlit
              have HOWN := Lib.hid hown
              have HBS := Lib.hid hbs
              have HL4 := Lib.hid hl4
              clear hlit hown hbs hl4
              have hbA : Below w2.heap.size w2 ((w2.alloc (.cells #[.int .u8 0, .int .u8 (IntKind.u8.wrap ((d.length : Int) / 65536)), .int .u8 (IntKind.u8.wrap ((d.length : Int) / 256)), .int .u8 (IntKind.u8.wrap (d.length : Int))] 5)).drew) := (box_below w2 _).drew
              have hcA := cell_al d2 (.cells #[.int .u8 0, .int .u8 (IntKind.u8.wrap ((d.length : Int) / 65536)), .int .u8 (IntKind.u8.wrap ((d.length : Int) / 256)), .int .u8 (IntKind.u8.wrap (d.length : Int))] 5)
              have HG := Lib.hid ((hbA.block wr.heap.size (lt_of_block HR2.out)).trans HR2.out)
              have HBA := Lib.hid (HBL.out.trans ((HB2.out.trans (hbA.mono HB2.out.size)).mono HBL.out.size))
              have hl5 : xs.length + ([0] ++ num d.length).length + d.length ≤ 1000000 := by simp [num]; omega
              have HL5 := Lib.hid hl5
              clear hbA hl5
              go_region_held3 (fun w' => w'.cell? ⟨wr.heap.size, 2, none⟩ = some (.slice X d.length cc))
                (first | assumption | exact hcA | exact g4 | exact g5)
                (first
                  | (refine step_by (by rfl) (.tmp 85) (.tmp 94) (by rfl) w0.heap.size u5 _ xs.length xs ([0] ++ num d.length) (by rfl) (by rfl) HOWN.out HLIT.out (by simp) HL4.out HBS.out ?_; intro v4 w4 own4 gr4; have q4 := (gr4.block wr.heap.size (lt_of_block HG.out) (fun e => own_ne HOWN.out HG.out (by decide) e.symm)).trans HG.out; obtain ⟨_, _, g4⟩ := opCells _ _ _ _ _ _ _ q4; have HO4 := Lib.hid own4; have HB4 := Lib.hid (HBA.out.grown gr4 HBA.out.size (fun g e => (HOWN.out.lt g e).1)); have HG4 := Lib.hid q4; clear own4 gr4 q4)
                  | (refine step_by (by rfl) (.tmp 95) (.tmp 97) (by rfl) w0.heap.size v4 _ _ _ d (by rfl) (by rfl) HO4.out ((HRB.out.by h4).below HB4.out) h4 HL5.out HB4.out.size ?_; intro v5 w5 own5 gr5; have q5 := (gr5.block wr.heap.size (lt_of_block HG4.out) (fun e => own_ne HO4.out HG4.out (by decide) e.symm)).trans HG4.out; obtain ⟨_, _, g5⟩ := opCells _ _ _ _ _ _ _ q5; have HO5 := Lib.hid own5; have HB5 := Lib.hid (HB4.out.grown gr5 HB4.out.size (fun g e => (HO4.out.lt g e).1)); clear own5 gr5 q5))
              go_wp2_with fail
              exact ⟨⟨k + 1, by omega, by go_num, HQ3.out, by rw [HE1.out]; have := HO5.out; simpa [List.append_assoc, Nat.add_assoc, Nat.add_comm, Nat.add_left_comm] using this, HB5.out⟩, by simp [intOf]; omega⟩
            · simp only at hF hF2 hS hS2 h4
              obtain ⟨F, rfl⟩ : ∃ m : Nat, F = m := ⟨F.toNat, by omega⟩
              obtain ⟨S, rfl⟩ : ∃ m : Nat, S = m := ⟨S.toNat, by omega⟩
              have s1 : F ≤ 65536 := by omega
              have s2 : S ≤ 65536 := by omega
              have hdn : d = [] := List.eq_nil_of_length_eq_zero h4
              subst hdn
              have ef : fmr ⟨(F : Int), (S : Int), []⟩ = [1] ++ num F ++ num S := if_pos (by simpa using hS)
              rw [ef] at ht HE1
              simp only [List.length_append, num_len, List.length_singleton] at ht
              have hSi : (0 : Int) < (S : Int) := by omega
              clear ef hla2 HQ
              generalize fmR rs k = xs at *
              go_wp2_with (first
                | (go_at_call 57; refine (HRI.out _).mono ?_; rintro e w2 ⟨rfl, hb2⟩; have hr2 := (hb2.block wr.heap.size (by simp)).trans HR1.out; have HB2 := Lib.hid ((box_below wr (.cells #[.int .i64 F, .int .i64 S, .slice X 0 cc] 54)).trans (hb2.mono (box_below wr _).size)); clear hb2; obtain ⟨d0, d1, d2⟩ := opCells _ _ _ _ _ _ _ hr2; clear hr2)
                | (at_builtin; refine append_by rfl (.tmp 57) (.tmp 80) rfl w0.heap.size u5 _ xs.length xs ([1] ++ num F ++ num S) rfl rfl (own_bel HROW.out (HB2.out.trans ((box_below w2 _).mono HB2.out.size))) (by_lit (w := w2) (bs := [1] ++ num F ++ num S) (by simp [num]; omega) (by simp [u8s, num]; omega) (by simp [num])) (by simp [num]; omega) (Nat.le_trans HBL.out.size (HB2.out.trans ((box_below w2 _).mono HB2.out.size)).size) ?_; intro v4 w4 own4 gr4; have HO4 := Lib.hid own4; have HB4 := Lib.hid ((HBL.out.trans ((HB2.out.trans ((box_below w2 _).mono HB2.out.size)).mono HBL.out.size)).grown gr4 (Nat.le_trans HBL.out.size (HB2.out.trans ((box_below w2 _).mono HB2.out.size)).size) (fun g e => (HROW.out.lt g e).1)); clear own4 gr4))
              exact ⟨⟨k + 1, by omega, by go_num, HQ3.out, by rw [HE1.out]; have := HO4.out; simpa [List.append_assoc] using this, HB4.out⟩, by simp [intOf]; omega⟩
          · have HX := Lib.hid (HQ2.out HQ.out)
            clear HQ1 HQ2
            go_wp2_with (go_at_call 57; refine (HRI.out _).mono ?_; rintro e w2 ⟨rfl, hb2⟩; have HB2 := Lib.hid (HBX.out.trans (hb2.mono HBX.out.size)); clear hb2)
            go_ret2
            exact fres_err HX.out (by decide) HB2.out
        · obtain rfl : k = i := by omega
          have he0 : fmtE rs k = 0 := by
            have h1 : anyR bad rs k = false := anyR_none hnb
            simp [fmtE, h200, HLA.out, h1]
          have HE0 := Lib.hid he0
          clear he0 hnb hbl
          go_wp2_with fail
          go_ret2
          exact ⟨_, by rw [HE0.out]; rfl, by rw [show fmtB rs k = fmR rs k from if_pos HE0.out]; exact HROW.out, HBL.out⟩

end Go.Proofs.Ytgaliinjjonlmaa.Dt
