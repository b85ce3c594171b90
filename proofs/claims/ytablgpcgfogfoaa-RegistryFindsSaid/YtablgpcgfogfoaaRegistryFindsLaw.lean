/-
  The Go function leakresponse/leakresponselaw24.RegistryFinds returns true for every list of numbers, and leaves what was there as it was; no conditions.
-/
import Derived.Test.YtablgpcgfogfoaaRgO
import Derived.Test.YtablgpcgfogfoaaRows
import Derived.WalkKit
import Derived.ProofKit
import Derived.OpenShut
import Derived.ShutString
import Derived.ChangeOld
import Derived.Below
import Derived.BigQuiet
namespace Go.Proofs.Ytablgpcgfogfoaa.registryFinds
open Go.ChangeShapes Go.WideShapes Go.ChangeAt Go.RowKit
open Go.ChangeMaps (open_string shut_string)
open Go.Proofs.Ytablgpcgfogfoaa.Tp
open Go.Proofs.Ytablgpcgfogfoaa.Rg
set_option linter.unusedVariables false

set_option maxRecDepth 100000 in
set_option maxHeartbeats 4000000 in
theorem walk (a0 : Option Addr) (len0 cap0 : Nat) (z0 : List Int) (w : World) (w0 : IsRow .i64 w a0 len0 cap0 z0) :
    Calls Try.prog 8 #[.slice a0 len0 cap0] w fun e w' => e = .returned (.bool true) ∧ Below w.heap.size w w' := by
  have hm := w0.at_.1
  unfold maxLen at hm
  have HTP := Lib.hid (tape_new w0)
  have HBX := Lib.hid (box_below w (.cells #[.slice a0 len0 cap0, .int .i64 0] 33))
  clear w0
  by_cases hlen : 300 < len0
  · have hl0 : (300 : Int) < (len0 : Int) := by omega
    go_enter Try.func8, Try.ntmps8
    go_wp2_with (go_at_call 9; refine (awake_any _).mono ?_; rintro e w1 ⟨rfl, hb1⟩; have HB1 := Lib.hid hb1; clear hb1)
    go_ret
    exact ⟨rfl, HB1.out⟩
  · have hl0 : (len0 : Int) ≤ (300 : Int) := by omega
    go_enter Try.func8, Try.ntmps8
    go_wp2_with fail
    refine (registry_any w.heap.size _ HTP.out (by simp)).mono ?_
    rintro e w1 ⟨r, v, rfl, hwf, hcr, hi1, hi2, hc7, hrl, hg1, ht1⟩
    have hb1 : Below w.heap.size w w1 := HBX.out.grown hg1 HBX.out.size (fun k e => by cases e; exact Nat.le_refl _)
    have hs1 := hg1.size
    simp at hs1
    have HQ := Lib.hid (heap_alloc_new w1 (.cells (gv r v) 26))
    have HGD := Lib.hid (show Gd (w1.alloc (.cells (gv r v) 26)) (w.heap.size + 1) nmI r v from ⟨(hrl.base (show w.heap.size + 1 ≤ _ by simp)).below (box_below w1 (.cells (gv r v) 26)), nm_I, hwf, hcr⟩)
    have HB1 := Lib.hid (hb1.trans ((box_below w1 (.cells (gv r v) 26)).mono hb1.size))
    have HT1 := Lib.hid (tape_new2 ht1 (.cells (gv r v) 26))
    have HWF := Lib.hid hwf
    have HCR := Lib.hid hcr
    clear hrl hg1 ht1 hb1 hwf hcr
    obtain ⟨g0, g1⟩ := gvCells HQ.out
    go_wp2_with (with_reducible (show wpList _ _ _ (⟨none, .store 26 (.tmp 4) (.tmp 21), _, _, _, _⟩ :: _) _ _); refine wpList_store_row (o := ⟨none, .store 26 (.tmp 4) (.tmp 21), _, _, _, _⟩) rfl 26 (.tmp 4) (.tmp 21) rfl w1.heap.size (gv r v) rfl rfl 26 zG (heap_alloc_new _ _) (info26 _ _) rfl (gv_one _ _) ?_; rw [new_set])
    have lQ : w1.heap.size < (w1.alloc (.cells (gv r v) 26)).heap.size := row_lt HQ.out
    generalize w1.heap.size = Q at *
    generalize w1.alloc (.cells (gv r v) 26) = W1 at *
    clear g0 g1
    go_loopw [5] (fun ff wr => ∃ f : Nat, f ≤ 6 ∧ ff = .int .u64 f ∧ Below W1.heap.size W1 wr) (fun ff _ => 6 - (intOf ff).toNat)
    case atStart => exact ⟨0, by omega, rfl, Below.refl _ _⟩
    case round =>
      obtain ⟨f, hf, rfl, hbl⟩ := hrel
      have HBL := Lib.hid hbl
      have QK := Lib.hid ((hbl.block Q (row_lt HQ.out)).trans HQ.out)
      have HGK := Lib.hid (HGD.out.below hbl)
      have HBK := Lib.hid (HB1.out.trans (hbl.mono HB1.out.size))
      have HTK := Lib.hid (tape_below HT1.out hbl)
      clear hbl
      by_cases hlt : f < 6
      · have f6 : (f : Int) < 6 := by omega
        obtain ⟨g0, g1⟩ := gvCells QK.out
        have hfd := find_any _ nmI r v f wr HGK.out
        unfold SmPost at hfd
        simp only [gv] at hfd
        have HFD := Lib.hid hfd
        clear hfd
        go_wp2_with fail
        refine HFD.out.mono ?_
        rintro e w3 ⟨A3, cc3, rfl, hrow3, hb3⟩
        have hcl := cnt_le (fun j => (cg r j).p == f) r.c.length
        have HHX := Lib.hid (fun i (hi : i < r.c.length) => has_idx (fun j => (cg r j).p == f) r.c.length i hi)
        generalize hcn : cnt (fun j => (cg r j).p == f) r.c.length = cn at *
        generalize idx (fun j => (cg r j).p == f) r.c.length = L at *
        have HR3 := Lib.hid (hrow3.base (Nat.zero_le _))
        have Q3 := Lib.hid ((hb3.block Q (row_lt QK.out)).trans QK.out)
        have HG3 := Lib.hid (HGK.out.below hb3)
        have HB3 := Lib.hid (HBL.out.trans (hb3.mono HBL.out.size))
        clear hb3 hrow3 g0 g1 hcn HFD
        obtain ⟨g0, g1⟩ := gvCells Q3.out
        go_wp2_with fail
        clear g0 g1
        go_loopw [32] (fun ii wi => ∃ i : Nat, i ≤ r.c.length ∧ ii = .int .i64 i ∧ Below w3.heap.size w3 wi) (fun ii _ => r.c.length - (intOf ii).toNat)
        case atStart => exact ⟨0, by omega, rfl, Below.refl _ _⟩
        case round =>
          obtain ⟨i, hi, rfl, hbi⟩ := hrel
          have HBI := Lib.hid hbi
          have HGI := Lib.hid (HG3.out.below hbi)
          have HRI := Lib.hid (HR3.out.below hbi)
          clear hbi
          by_cases hli : i < r.c.length
          · obtain ⟨b, off, hA, -, hbk, y0, y1, y2, y3, y4⟩ := HGI.out.l.r2.crd hli
            have hK : r.c.getD i c0 = cg r i := rfl
            rw [hK] at y0 y1 y2 y3 y4
            have hhx := HHX.out i hli
            clear hK
            generalize cg r i = x at *
            have hpb : ((x.p : Int) == (f : Int)) = (x.p == f) := by
              by_cases h : x.p = f
              · rw [h]; simp
              · rw [beq_eq_false_iff_ne.2 h, beq_eq_false_iff_ne.2 (by omega)]
            have j0 : (0 : Int) ≤ (i : Int) := by omega
            have j1 : (i : Int) < (r.c.length : Int) := by omega
            have hbx := box_below wr (.cells (kc x) 29)
            have NX := Lib.hid (heap_alloc_new wr (.cells (kc x) 29))
            have HBX2 := Lib.hid (HBI.out.trans (hbx.mono HBI.out.size))
            have HRX := Lib.hid (HRI.out.below hbx)
            have HHS := Lib.hid (fun w' (hw : Row w' 0 1 A3 cn (iv L)) => has_any L i A3 cn cc3 w' hw (by omega))
            simp only [kc] at NX HBX2 HRX
            rw [hhx] at HHS
            rw [hA]
            clear hA hbx hhx
            generalize hpbq : (x.p == f) = pb at *
            have HPB := Lib.hid hpb
            clear hpbq hpb
            go_wp2_with fail
            have hpb := HPB.out
            have hk5 : ∀ w', Below (wr.alloc (.cells #[.int .i64 (x.i : Int), .int .u64 (x.p : Int), .int .i64 (x.h : Int), .int .i64 (x.f : Int), .int .i64 (x.u : Int)] 29)).heap.size (wr.alloc (.cells #[.int .i64 (x.i : Int), .int .u64 (x.p : Int), .int .i64 (x.h : Int), .int .i64 (x.f : Int), .int .i64 (x.u : Int)] 29)) w' → (w'.cell? ⟨wr.heap.size, 1, none⟩ = some (.int .u64 (x.p : Int)) ∧ Row w' 0 1 A3 cn (iv L) ∧ Below (wr.alloc (.cells #[.int .i64 (x.i : Int), .int .u64 (x.p : Int), .int .i64 (x.h : Int), .int .i64 (x.f : Int), .int .i64 (x.u : Int)] 29)).heap.size (wr.alloc (.cells #[.int .i64 (x.i : Int), .int .u64 (x.p : Int), .int .i64 (x.h : Int), .int .i64 (x.f : Int), .int .i64 (x.u : Int)] 29)) w') := fun w' hw => ⟨cell_of_row _ _ 1 _ _ _ ((hw.block wr.heap.size (row_lt NX.out)).trans NX.out), HRX.out.below hw, hw⟩
            have HK5 := Lib.hid hk5
            clear hk5 y0 y1 y2 y3 y4
            generalize wr.alloc (.cells #[.int .i64 (x.i : Int), .int .u64 (x.p : Int), .int .i64 (x.h : Int), .int .i64 (x.f : Int), .int .i64 (x.u : Int)] 29) = W7 at *
            have hbr : Below W7.heap.size W7 W7 := Below.refl _ _
            have hbd : Below W7.heap.size W7 W7.drew := hbr.drew
            go_region_held3 (fun w' => w'.cell? ⟨wr.heap.size, 1, none⟩ = some (.int .u64 (x.p : Int)) ∧ Row w' 0 1 A3 cn (iv L) ∧ Below W7.heap.size W7 w')
              (first | (with_reducible assumption) | (with_reducible exact HK5.out _ hbr) | (with_reducible exact HK5.out _ hbd))
              (first
                | (go_at_call 33; (with_reducible refine (HHS.out _ ?_).mono ?_); (go_split_ands; with_reducible assumption); rintro e w2 ⟨rfl, rfl⟩))
            go_wp2_with fail
            go_split_ands
            rename_i hf1
            exact ⟨⟨i + 1, by omega, by go_num, HBX2.out.trans (hf1.mono HBX2.out.size)⟩, by simp [intOf]; omega⟩
          · obtain rfl : i = r.c.length := by omega
            go_wp2_with fail
            exact ⟨⟨f + 1, by omega, by go_num, HB3.out.trans (HBI.out.mono HB3.out.size)⟩, by simp [intOf]; omega⟩
      · obtain rfl : f = 6 := by omega
        have hwf := HWF.out
        have hcr := HCR.out
        have hqr := row_lt QK.out
        have hTr : w.heap.size < wr.heap.size := by omega
        have he : ∀ w', TapeOk w' w.heap.size → w.heap.size < w'.heap.size → Calls Try.prog 30 #[.pointer (some ⟨w.heap.size, 0, none⟩), .agg #[.slice v.A1 r.s.length v.c1, .slice v.A2 r.c.length v.c2]] w' (CrPost w.heap.size r w') := fun w' ht hl => cred_any w.heap.size r v w' ht hl hi1 (by omega)
        have ha : ∀ (x : Cr) w', RL w' (w.heap.size + 1) nmI r v → Cw r x → Calls Try.prog 31 #[.agg #[.slice v.A1 r.s.length v.c1, .slice v.A2 r.c.length v.c2], .agg (kc x)] w' (JForm nmI r x w') := fun x w' hc hg => (issue_any (w.heap.size + 1) nmI r v x w' hc nm_I hwf hg hcr (by omega)).mono fun _ _ hp => jform hp
        have HE := Lib.hid he
        have HA := Lib.hid ha
        have hk : ∀ w', wr.grownBy w' (some w.heap.size) → TapeOk w' w.heap.size → (w'.cell? ⟨Q, 0, none⟩ = some (.slice v.A1 r.s.length v.c1) ∧ w'.cell? ⟨Q, 1, none⟩ = some (.slice v.A2 r.c.length v.c2) ∧ wr.grownBy w' (some w.heap.size) ∧ TapeOk w' w.heap.size) := fun w' hg ht => by
          obtain ⟨k0, k1⟩ := gvCells ((hg.block Q hqr (by simp; omega)).trans QK.out)
          exact ⟨k0, k1, hg, ht⟩
        have HK := Lib.hid hk
        have gd : wr.grownBy wr.drew (some w.heap.size) := gb_drewN wr 1 _
        have td : TapeOk wr.drew w.heap.size := HTK.out
        have ga0 : wr.grownBy (wr.alloc (.cells zG 26)).drew (some w.heap.size) := (gb_trans (gb_row (gb_of_below (box_below wr (.cells zG 26)))) (gb_drewN _ 1 _))
        have ta0 : TapeOk (wr.alloc (.cells zG 26)).drew w.heap.size := tape_new2 HTK.out _
        obtain ⟨T, hT⟩ : ∃ T, T = w.heap.size := ⟨_, rfl⟩
        clear hk he ha
        go_wp2_with fail
        go_region_held3 (fun w' => w'.cell? ⟨Q, 0, none⟩ = some (.slice v.A1 r.s.length v.c1) ∧ w'.cell? ⟨Q, 1, none⟩ = some (.slice v.A2 r.c.length v.c2) ∧ wr.grownBy w' (some w.heap.size) ∧ TapeOk w' w.heap.size)
          (first | (with_reducible assumption) | (with_reducible exact HK.out _ gd td) | (with_reducible exact HK.out _ ga ta) | (with_reducible exact HK.out _ gb tb) | (with_reducible exact HK.out _ (gb_alloc2 ga _) (tape_new2 ta _)) | (with_reducible exact HK.out _ (gb_alloc2 gb _) (tape_new2 tb _)) | (with_reducible exact HK.out _ (gb_far1 (gb_far1 gb (Nat.le_refl _)) (Nat.le_refl _)) (tape_far1 (tape_far1 tb hTr) hTr)) | (with_reducible exact HK.out _ (gb_far1 (gb_far1 gb (World.grownBy.size ga)) (World.grownBy.size ga)) (tape_far1 (tape_far1 tb hTa) hTa)) | exact HK.out _ ga0 ta0)
          (first
            | (go_at_call 30; (with_reducible refine (HE.out _ ?_ ?_).mono ?_); (go_split_ands; with_reducible assumption); (go_split_ands; exact Nat.lt_of_lt_of_le hTr (World.grownBy.size (by with_reducible assumption))); rintro e wa ⟨x, hgood, rfl, hga, hta⟩; go_split_ands; have ga : wr.grownBy wa (some w.heap.size) := gb_trans (by with_reducible assumption) hga; have ta := hta; have hTa : w.heap.size < wa.heap.size := Nat.lt_of_lt_of_le hTr ga.size; have XG := Lib.hid hgood; have GA := Lib.hid ga; (first | (have NA := Lib.hid (show wa.heap[wr.heap.size]? = some (.cells zG 26 (0, 0)) from (hga.block wr.heap.size (by simp) (by simp; omega)).trans (heap_alloc_new wr (.cells zG 26)))) | skip); clear hga hta hgood)
            | (go_at_call 31; (with_reducible refine (HA.out x _ ?_ ?_).mono ?_); (go_split_ands; exact HGK.out.l.grown (row := some w.heap.size) (by with_reducible assumption) (fun g e => by cases e; omega)); (exact XG.out); rintro e wb ⟨B1, n1, d1, B2, n2, d2, num, er, rfl, hout⟩; go_split_ands; have gb : wr.grownBy wb (some w.heap.size) := gb_trans (by with_reducible assumption) (gb_row (gb_of_below hout.2)); have tb : TapeOk wb w.heap.size := tape_below (by with_reducible assumption) hout.2; have HOUT := Lib.hid hout; (first | (have NB := Lib.hid (show wb.heap[wa.heap.size]? = some (.cells zG 26 (0, 0)) from (hout.2.block wa.heap.size (by simp)).trans (heap_alloc_new wa (.cells zG 26))); obtain ⟨y0, y1, y2, y3⟩ := zgCells NB.out) | (have NB := Lib.hid (show wb.heap[wr.heap.size]? = some (.cells zG 26 (0, 0)) from (hout.2.block wr.heap.size (row_lt NA.out)).trans NA.out); obtain ⟨y0, y1, y2, y3⟩ := zgCells NB.out) | skip); clear hout))
        ·
          obtain ⟨W6, hW6⟩ : ∃ W6, wb.alloc (.cells #[.slice B1 n1 d1, .slice B2 n2 d2] 26) = W6 := ⟨_, rfl⟩
          have gW : wr.grownBy W6 (some w.heap.size) := by rw [← hW6]; exact gb_alloc2 gb _
          have fN : W6.heap[wb.heap.size]? = some (.cells #[.slice B1 n1 d1, .slice B2 n2 d2] 26 (0, 0)) := by rw [← hW6]; exact heap_alloc_new wb _
          have fo : ∀ v' B0, RL wb B0 nmI (add r x) v' → RL W6 0 nmI (add r x) v' := fun v' B0 h2 => by rw [← hW6]; exact (h2.below (box_below _ _)).base (Nat.zero_le _)
          have hB0 : True := trivial
          rw [hW6]
          generalize wb.heap.size = g9 at fN ⊢
          have FO := Lib.hid fo
          have HB0 := Lib.hid hB0
          clear hB0
          have HB6 := Lib.hid (HBK.out.grown gW HBK.out.size (fun k e => by cases e; exact Nat.le_refl _))
          have HR6 := Lib.hid (HGK.out.l.grown (row := some w.heap.size) gW (fun g e => by cases e; omega))
          have fq := Lib.hid ((gW.block Q hqr (by simp; omega)).trans QK.out)
          clear fo gW hW6 gd td ga0 ta0
          go_split_ands
          rcases HOUT.out.1 with ⟨hcr2, rfl, rfl, hcs⟩ | ⟨hcr2, rfl, rfl, v', hcs, hrl2⟩
          · clear hcs hcr2
            go_wp2_with (go_at_call 9; refine (awake_any _).mono ?_; rintro e w9 ⟨rfl, hb9⟩; have HB9 := Lib.hid hb9; clear hb9)
            go_ret
            exact ⟨rfl, HB6.out.trans (HB9.out.mono HB6.out.size)⟩
          · have HCX := Lib.hid (FO.out v' _ hrl2)
            rw [hcs] at fN
            clear hcs hrl2 hcr2
            have hcN := fN
            have HN := Lib.hid hcN
            obtain ⟨u0, u1⟩ := gvCells fN
            obtain ⟨q0, q1⟩ := gvCells fq.out
            have hln : (((add r x).c.length : Nat) : Int) = (r.c.length : Int) + 1 := by rw [add_len]; omega
            have hwr : IntKind.i64.wrap ((r.c.length : Int) + 1) = (r.c.length : Int) + 1 := IntWalk.i64_in _ (by omega)
            rw [add_len] at u1
            clear fN hcN
            go_wp2_with fail
            clear hwr
            go_loopw [74] (fun ii wi => ∃ i : Nat, i ≤ r.c.length ∧ ii = .int .i64 i ∧ Below W6.heap.size W6 wi) (fun ii _ => r.c.length - (intOf ii).toNat)
            case atStart => exact ⟨0, by omega, rfl, Below.refl _ _⟩
            case round =>
              obtain ⟨i, hi, rfl, hbi⟩ := hrel
              have HBI := Lib.hid hbi
              have HSI := Lib.hid (HCX.out.below hbi)
              have HRI := Lib.hid (HR6.out.below hbi)
              have N3 := Lib.hid ((hbi.block g9 (row_lt HN.out)).trans HN.out)
              have Q3 := Lib.hid ((hbi.block Q (row_lt fq.out)).trans fq.out)
              clear hbi u0 u1 q0 q1
              by_cases hli : i < r.c.length
              · obtain ⟨u0, u1⟩ := gvCells N3.out
                obtain ⟨q0, q1⟩ := gvCells Q3.out
                have hli2 : i < (add r x).c.length := by rw [add_len]; omega
                obtain ⟨b, off, hA, -, hbk, y0, y1, y2, y3, y4⟩ := HRI.out.r2.crd hli
                obtain ⟨b2, off2, hA2, -, hbk2, z0, z1, z2, z3, z4⟩ := HSI.out.r2.crd hli2
                have hK : r.c.getD i c0 = cg r i := rfl
                have hK2 : (add r x).c.getD i c0 = cg r i := cg_left hli
                rw [hK] at y0 y1 y2 y3 y4
                rw [hK2] at z0 z1 z2 z3 z4
                clear hK hK2
                generalize cg r i = y at *
                have j0 : (0 : Int) ≤ (i : Int) := by omega
                have j1 : (i : Int) < (r.c.length : Int) := by omega
                have j2 : (i : Int) < (((add r x).c.length : Nat) : Int) := by omega
                rw [hA] at q1
                rw [hA2] at u1
                clear hA hA2
                go_wp2_with fail
                go_quiet (fail)
                clear u0 u1 q0 q1 y0 y1 y2 y3 y4 z0 z1 z2 z3 z4
                go_wp2_with fail
                have hbi := HBI.out
                exact ⟨⟨i + 1, by omega, by go_num, ⟨hbi.os, hbi.tape, hbi.output, hbi.size, hbi.block⟩⟩, by simp [intOf]; omega⟩
              · obtain rfl : i = r.c.length := by omega
                go_wp2_with (go_at_call 9; refine (awake_any _).mono ?_; rintro e w9 ⟨rfl, hb9⟩; have HB9 := Lib.hid hb9; clear hb9)
                go_ret
                exact ⟨rfl, (HB6.out.trans (HBI.out.mono HB6.out.size)).trans (HB9.out.mono (HB6.out.trans (HBI.out.mono HB6.out.size)).size)⟩
        ·
          rw [set2row NB.out rfl]
          obtain ⟨W6, hW6⟩ : ∃ W6, wb.setRow wa.heap.size #[.slice B1 n1 d1, .slice B2 n2 d2] = W6 := ⟨_, rfl⟩
          have gW : wr.grownBy W6 (some w.heap.size) := by rw [← hW6]; exact gb_far gb ga.size _
          have fN : W6.heap[wa.heap.size]? = some (.cells #[.slice B1 n1 d1, .slice B2 n2 d2] 26 (0, 0)) := by rw [← hW6]; exact setRow_heap _ _ _ _ _ _ NB.out
          have hB0 : wa.heap.size < (wa.alloc (.cells zG 26)).heap.size := by simp
          have fo : ∀ v' B0, wa.heap.size < B0 → RL wb B0 nmI (add r x) v' → RL W6 0 nmI (add r x) v' := fun v' B0 h0 h2 => by rw [← hW6]; exact (h2.set h0 _).base (Nat.zero_le _)
          rw [hW6]
          generalize wa.heap.size = g9 at fN ⊢
          have FO := Lib.hid fo
          have HB0 := Lib.hid hB0
          clear hB0
          have HB6 := Lib.hid (HBK.out.grown gW HBK.out.size (fun k e => by cases e; exact Nat.le_refl _))
          have HR6 := Lib.hid (HGK.out.l.grown (row := some w.heap.size) gW (fun g e => by cases e; omega))
          have fq := Lib.hid ((gW.block Q hqr (by simp; omega)).trans QK.out)
          clear fo gW hW6 gd td ga0 ta0
          go_split_ands
          rcases HOUT.out.1 with ⟨hcr2, rfl, rfl, hcs⟩ | ⟨hcr2, rfl, rfl, v', hcs, hrl2⟩
          · clear hcs hcr2
            go_wp2_with (go_at_call 9; refine (awake_any _).mono ?_; rintro e w9 ⟨rfl, hb9⟩; have HB9 := Lib.hid hb9; clear hb9)
            go_ret
            exact ⟨rfl, HB6.out.trans (HB9.out.mono HB6.out.size)⟩
          · have HCX := Lib.hid (FO.out v' _ HB0.out hrl2)
            rw [hcs] at fN
            clear hcs hrl2 hcr2
            have hcN := fN
            have HN := Lib.hid hcN
            obtain ⟨u0, u1⟩ := gvCells fN
            obtain ⟨q0, q1⟩ := gvCells fq.out
            have hln : (((add r x).c.length : Nat) : Int) = (r.c.length : Int) + 1 := by rw [add_len]; omega
            have hwr : IntKind.i64.wrap ((r.c.length : Int) + 1) = (r.c.length : Int) + 1 := IntWalk.i64_in _ (by omega)
            rw [add_len] at u1
            clear fN hcN
            go_wp2_with fail
            clear hwr
            go_loopw [74] (fun ii wi => ∃ i : Nat, i ≤ r.c.length ∧ ii = .int .i64 i ∧ Below W6.heap.size W6 wi) (fun ii _ => r.c.length - (intOf ii).toNat)
            case atStart => exact ⟨0, by omega, rfl, Below.refl _ _⟩
            case round =>
              obtain ⟨i, hi, rfl, hbi⟩ := hrel
              have HBI := Lib.hid hbi
              have HSI := Lib.hid (HCX.out.below hbi)
              have HRI := Lib.hid (HR6.out.below hbi)
              have N3 := Lib.hid ((hbi.block g9 (row_lt HN.out)).trans HN.out)
              have Q3 := Lib.hid ((hbi.block Q (row_lt fq.out)).trans fq.out)
              clear hbi u0 u1 q0 q1
              by_cases hli : i < r.c.length
              · obtain ⟨u0, u1⟩ := gvCells N3.out
                obtain ⟨q0, q1⟩ := gvCells Q3.out
                have hli2 : i < (add r x).c.length := by rw [add_len]; omega
                obtain ⟨b, off, hA, -, hbk, y0, y1, y2, y3, y4⟩ := HRI.out.r2.crd hli
                obtain ⟨b2, off2, hA2, -, hbk2, z0, z1, z2, z3, z4⟩ := HSI.out.r2.crd hli2
                have hK : r.c.getD i c0 = cg r i := rfl
                have hK2 : (add r x).c.getD i c0 = cg r i := cg_left hli
                rw [hK] at y0 y1 y2 y3 y4
                rw [hK2] at z0 z1 z2 z3 z4
                clear hK hK2
                generalize cg r i = y at *
                have j0 : (0 : Int) ≤ (i : Int) := by omega
                have j1 : (i : Int) < (r.c.length : Int) := by omega
                have j2 : (i : Int) < (((add r x).c.length : Nat) : Int) := by omega
                rw [hA] at q1
                rw [hA2] at u1
                clear hA hA2
                go_wp2_with fail
                go_quiet (fail)
                clear u0 u1 q0 q1 y0 y1 y2 y3 y4 z0 z1 z2 z3 z4
                go_wp2_with fail
                have hbi := HBI.out
                exact ⟨⟨i + 1, by omega, by go_num, ⟨hbi.os, hbi.tape, hbi.output, hbi.size, hbi.block⟩⟩, by simp [intOf]; omega⟩
              · obtain rfl : i = r.c.length := by omega
                go_wp2_with (go_at_call 9; refine (awake_any _).mono ?_; rintro e w9 ⟨rfl, hb9⟩; have HB9 := Lib.hid hb9; clear hb9)
                go_ret
                exact ⟨rfl, (HB6.out.trans (HBI.out.mono HB6.out.size)).trans (HB9.out.mono (HB6.out.trans (HBI.out.mono HB6.out.size)).size)⟩
        ·
          rw [set2row NB.out rfl]
          obtain ⟨W6, hW6⟩ : ∃ W6, wb.setRow wr.heap.size #[.slice B1 n1 d1, .slice B2 n2 d2] = W6 := ⟨_, rfl⟩
          have gW : wr.grownBy W6 (some w.heap.size) := by rw [← hW6]; exact gb_far gb (Nat.le_refl _) _
          have fN : W6.heap[wr.heap.size]? = some (.cells #[.slice B1 n1 d1, .slice B2 n2 d2] 26 (0, 0)) := by rw [← hW6]; exact setRow_heap _ _ _ _ _ _ NB.out
          have hB0 : wr.heap.size < wa.heap.size := by have := row_lt NA.out; exact this
          have fo : ∀ v' B0, wr.heap.size < B0 → RL wb B0 nmI (add r x) v' → RL W6 0 nmI (add r x) v' := fun v' B0 h0 h2 => by rw [← hW6]; exact (h2.set h0 _).base (Nat.zero_le _)
          rw [hW6]
          generalize wr.heap.size = g9 at fN ⊢
          have FO := Lib.hid fo
          have HB0 := Lib.hid hB0
          clear hB0
          have HB6 := Lib.hid (HBK.out.grown gW HBK.out.size (fun k e => by cases e; exact Nat.le_refl _))
          have HR6 := Lib.hid (HGK.out.l.grown (row := some w.heap.size) gW (fun g e => by cases e; omega))
          have fq := Lib.hid ((gW.block Q hqr (by simp; omega)).trans QK.out)
          clear fo gW hW6 gd td ga0 ta0
          go_split_ands
          rcases HOUT.out.1 with ⟨hcr2, rfl, rfl, hcs⟩ | ⟨hcr2, rfl, rfl, v', hcs, hrl2⟩
          · clear hcs hcr2
            go_wp2_with (go_at_call 9; refine (awake_any _).mono ?_; rintro e w9 ⟨rfl, hb9⟩; have HB9 := Lib.hid hb9; clear hb9)
            go_ret
            exact ⟨rfl, HB6.out.trans (HB9.out.mono HB6.out.size)⟩
          · have HCX := Lib.hid (FO.out v' _ HB0.out hrl2)
            rw [hcs] at fN
            clear hcs hrl2 hcr2
            have hcN := fN
            have HN := Lib.hid hcN
            obtain ⟨u0, u1⟩ := gvCells fN
            obtain ⟨q0, q1⟩ := gvCells fq.out
            have hln : (((add r x).c.length : Nat) : Int) = (r.c.length : Int) + 1 := by rw [add_len]; omega
            have hwr : IntKind.i64.wrap ((r.c.length : Int) + 1) = (r.c.length : Int) + 1 := IntWalk.i64_in _ (by omega)
            rw [add_len] at u1
            clear fN hcN
            go_wp2_with fail
            clear hwr
            go_loopw [74] (fun ii wi => ∃ i : Nat, i ≤ r.c.length ∧ ii = .int .i64 i ∧ Below W6.heap.size W6 wi) (fun ii _ => r.c.length - (intOf ii).toNat)
            case atStart => exact ⟨0, by omega, rfl, Below.refl _ _⟩
            case round =>
              obtain ⟨i, hi, rfl, hbi⟩ := hrel
              have HBI := Lib.hid hbi
              have HSI := Lib.hid (HCX.out.below hbi)
              have HRI := Lib.hid (HR6.out.below hbi)
              have N3 := Lib.hid ((hbi.block g9 (row_lt HN.out)).trans HN.out)
              have Q3 := Lib.hid ((hbi.block Q (row_lt fq.out)).trans fq.out)
              clear hbi u0 u1 q0 q1
              by_cases hli : i < r.c.length
              · obtain ⟨u0, u1⟩ := gvCells N3.out
                obtain ⟨q0, q1⟩ := gvCells Q3.out
                have hli2 : i < (add r x).c.length := by rw [add_len]; omega
                obtain ⟨b, off, hA, -, hbk, y0, y1, y2, y3, y4⟩ := HRI.out.r2.crd hli
                obtain ⟨b2, off2, hA2, -, hbk2, z0, z1, z2, z3, z4⟩ := HSI.out.r2.crd hli2
                have hK : r.c.getD i c0 = cg r i := rfl
                have hK2 : (add r x).c.getD i c0 = cg r i := cg_left hli
                rw [hK] at y0 y1 y2 y3 y4
                rw [hK2] at z0 z1 z2 z3 z4
                clear hK hK2
                generalize cg r i = y at *
                have j0 : (0 : Int) ≤ (i : Int) := by omega
                have j1 : (i : Int) < (r.c.length : Int) := by omega
                have j2 : (i : Int) < (((add r x).c.length : Nat) : Int) := by omega
                rw [hA] at q1
                rw [hA2] at u1
                clear hA hA2
                go_wp2_with fail
                go_quiet (fail)
                clear u0 u1 q0 q1 y0 y1 y2 y3 y4 z0 z1 z2 z3 z4
                go_wp2_with fail
                have hbi := HBI.out
                exact ⟨⟨i + 1, by omega, by go_num, ⟨hbi.os, hbi.tape, hbi.output, hbi.size, hbi.block⟩⟩, by simp [intOf]; omega⟩
              · obtain rfl : i = r.c.length := by omega
                go_wp2_with (go_at_call 9; refine (awake_any _).mono ?_; rintro e w9 ⟨rfl, hb9⟩; have HB9 := Lib.hid hb9; clear hb9)
                go_ret
                exact ⟨rfl, (HB6.out.trans (HBI.out.mono HB6.out.size)).trans (HB9.out.mono (HB6.out.trans (HBI.out.mono HB6.out.size)).size)⟩

/-! ### THE ROW's STEP: WRITTEN OUT: LEAVE IT -/
set_option maxRecDepth 100000 in
theorem lifted (os : Os) (started : os.Started) (H : Type) (enc : TypeId × Value → H) :
    ReturnsInHanded {} Try.checked os 8 .any (Rows.registryFindsSpec.pre6 enc Try.prog Try.f8 Rows.registryFindsRow.domain false) (Rows.registryFindsSpec.post enc Try.prog Try.f8 false true false false) := by
  refine returnsInHanded_of_change (C := Try.checked) own started (by kernel_rfl) Try.func8
    (ChangeSpec.witness6 (enc := enc) (C := Try.checked) false ⟨#[], #[.slice none 0 0], []⟩ 8 (by kernel_rfl) (by kernel_rfl) (by kernel_rfl) (by kernel_rfl)) ?_
  intro W base args ds gs before hval0 hW hcnd _
  have hval : ∀ (j : Nat) t v, Try.f8.params[j]? = some t → args[j]? = some v → Value.okWide Try.prog W .any base t v := hval0
  have hW' := hW
  obtain ⟨p, q, hA0, hV, rfl, hfz, hnd⟩ := hW
  have hA : DataW.TrodAll enc Try.prog W 0 (fun _ => true) true Try.f8.params.toList args.toList ds p := hA0
  rw [Try.params8] at hA hval
  obtain ⟨v0, vs0, d0, ds0, p0, q0, hargs, rfl, rfl, h0, r0⟩ := trodAll_cons hA
  obtain ⟨rfl, rfl, rfl⟩ := trodAll_nil r0
  obtain rfl : args = #[v0] := by cases args; simp_all
  obtain ⟨rfl, rfl⟩ := trodVars_none hV
  obtain ⟨a0, len0, cap0, rfl⟩ := okWide_slice Try.underlying22 (hval 0 22 v0 rfl rfl)
  have k0 := h0
  have lt0 : ∀ x ∈ p0, x.block < W.heap.size := by obtain ⟨m, hm⟩ := k0; exact DataW.trod_lt m _ _ _ hm
  obtain ⟨z0, w0⟩ : ∃ zs, IsRow .i64 W a0 len0 cap0 zs := by
    obtain ⟨fuel, hf⟩ := h0
    rcases open_ints Try.underlying22 Try.underlying3 (by kernel_rfl) hf with ⟨hcs, _⟩ | ⟨x, l, c, zs, hcs, _, hl, hm, hz, _, hcell, hwz⟩
    · simp [Value.cells] at hcs
      obtain ⟨rfl, rfl, rfl⟩ := hcs
      exact ⟨[], .inl ⟨rfl, rfl, rfl, rfl⟩⟩
    · simp [Value.cells] at hcs
      obtain ⟨rfl, rfl, rfl⟩ := hcs
      exact ⟨zs, .inr ⟨_, rfl, hl, hm, by simpa using hz, hcell, hwz⟩⟩
  clear hA0 hval0
  refine (walk a0 len0 cap0 z0 W w0).mono fun e W' ⟨he, bel⟩ => ?_
  subst he
  exact ⟨_, rfl, _, _, _, [], _, [], hW', trodAll_mk1 (shut_bool Try.underlying4 _), (trodAll_cons_mk (Below.trod laidOut (by kernel_rfl) (of_decide_eq_true (by kernel_rfl)) k0 bel lt0) trodAll_mk0), rfl, bel.frame _, fun h => by cases h⟩

theorem over : Rows.registryFindsRow.holds Try.pinned (OpenSpec.ofChange Rows.registryFindsSpec) :=
  OpenClaim.holds_of_wide 8 Try.f8 rfl rfl rfl rfl rfl rfl rfl ⟨rfl, rfl, rfl, rfl, rfl⟩ rfl rfl rfl rfl rfl (by kernel_rfl) Try.func8 (by kernel_rfl)
    (of_decide_eq_true (by kernel_rfl)) (by unfold Func.isWrapper; first | (rw [if_pos (by decide +kernel)]; kernel_rfl) | (rw [if_neg (by decide +kernel)]; exact ⟨rfl, rfl⟩))
    (fun os started H enc _ => lifted os started H enc)

/-- ████ THE STATEMENT ████ -/
theorem proved : Rows.RegistryFindsSaid := over
#print axioms proved
end Go.Proofs.Ytablgpcgfogfoaa.registryFinds
