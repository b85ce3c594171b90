/-
  The Go function leakresponse/leakresponselaw38.ProbeAnswers returns true for every list of numbers, and leaves what was there as it was; no conditions.
-/
import Derived.Test.YtamcjhibdcbdnaaCSt
import Derived.Test.YtamcjhibdcbdnaaRows
import Derived.WalkKit
import Derived.ProofKit
import Derived.OpenShut
import Derived.ShutString
import Derived.ChangeOld
import Derived.Below
import Derived.IntWalk
import Derived.Deep.RegionHeld3
namespace Go.Proofs.Ytamcjhibdcbdnaa.probeAnswers
open Go.ChangeShapes Go.WideShapes Go.ChangeAt Go.RowKit
open Go.ChangeMaps (open_string shut_string)
open Go.Proofs.Ytamcjhibdcbdnaa.Tp
open Go.Proofs.Ytamcjhibdcbdnaa.Cl
set_option linter.unusedVariables false

theorem right_one (c : Cl) (x : En) : right c [x] = mt c x := by
  show (!anyB (fun j => !mt c (([x] : List En).getD j e0)) 1) = mt c x
  simp [anyB]
theorem mt_two {c : Cl} {x : En} {k : Nat} (h : x.r = k) : mt c x = (x.g == (an c k).g && x.f == (an c k).f) := by
  subst h
  rfl
theorem row_one (W : World) (k g : Nat) (f : Bool) (t : TypeId) : Row (W.alloc (.cells #[.int .i64 (k : Int), .int .i64 (g : Int), .bool f] t)) 0 3 (some ⟨W.heap.size, 0, none⟩) 1 (xl [⟨k, g, f⟩]) :=
  ⟨rfl, fun _ => ⟨W.heap.size, 0, rfl, Nat.zero_le _, by simp, fun j u hj => by
    rw [Nat.zero_add, cell_of_row _ _ _ _ _ _ (heap_alloc_new W _), ← hj]
    simp [xl]⟩⟩

set_option maxRecDepth 100000 in
set_option maxHeartbeats 4000000 in
theorem walk (a0 : Option Addr) (len0 cap0 : Nat) (z0 : List Int) (w : World) (w0 : IsRow .i64 w a0 len0 cap0 z0) :
    Calls Try.prog 12 #[.slice a0 len0 cap0] w fun e w' => e = .returned (.bool true) ∧ Below w.heap.size w w' := by
  have hm := w0.at_.1
  unfold maxLen at hm
  have HTP := Lib.hid (tape_new w0)
  have HBX := Lib.hid (box_below w (.cells #[.slice a0 len0 cap0, .int .i64 0] 32))
  clear w0
  by_cases hlen : 300 < len0
  · have hl0 : (300 : Int) < (len0 : Int) := by omega
    go_enter Try.func12, Try.ntmps12
    go_wp2_with (go_at_call 37; refine (awake38 _).mono ?_; rintro e w1 ⟨rfl, hb1⟩; have HB1 := Lib.hid hb1; clear hb1)
    go_ret
    exact ⟨rfl, HB1.out⟩
  · have hl0 : (len0 : Int) ≤ (300 : Int) := by omega
    go_enter Try.func12, Try.ntmps12
    go_wp2_with fail
    refine (cluster_any w.heap.size _ HTP.out (by simp)).mono ?_
    rintro e w1 ⟨c, v, rfl, hok, hcl, hg1, ht1⟩
    have hb1 : Below w.heap.size w w1 := HBX.out.grown hg1 HBX.out.size (fun k e => by cases e; exact Nat.le_refl _)
    have hs1 := hg1.size
    simp at hs1
    have hcl0 := hcl.base (show w.heap.size + 1 ≤ (w.alloc (.cells #[.slice a0 len0 cap0, .int .i64 0] 32)).heap.size + 1 by simp)
    have HQ := Lib.hid (heap_alloc_new w1 (.cells (cv c v) 25))
    have HC := Lib.hid (hcl0.below (box_below w1 (.cells (cv c v) 25)))
    have HB1 := Lib.hid (hb1.trans ((box_below w1 (.cells (cv c v) 25)).mono hb1.size))
    have HT1 := Lib.hid (tape_new2 ht1 (.cells (cv c v) 25))
    have r2 := hok.r2
    have HOK := Lib.hid hok
    clear hcl hcl0 hg1 ht1 hb1 hok
    generalize hW1 : w1.alloc (.cells (cv c v) 25) = W1 at *
    have HW1 := Lib.hid hW1
    clear hW1
    obtain ⟨c0, c1, c2, c3⟩ := cvCells _ _ _ _ _ _ HQ.out
    go_wp2_with (with_reducible (show wpList _ _ _ (⟨none, .store 25 (.tmp 4) (.tmp 25), _, _, _, _⟩ :: _) _ _); refine wpList_store_row (o := ⟨none, .store 25 (.tmp 4) (.tmp 25), _, _, _, _⟩) rfl 25 (.tmp 4) (.tmp 25) rfl w1.heap.size (cv c v) rfl rfl 25 zC (heap_alloc_new _ _) (info25 _ _) rfl (cv_one _ _) ?_; rw [new_set, HW1.out])
    refine (all_x HC.out HOK.out (by omega)).mono ?_
    rintro e w8 ⟨A8, cc8, rfl, hrow8, hb8⟩
    have Q8 := Lib.hid ((hb8.block w1.heap.size (row_lt HQ.out)).trans HQ.out)
    have HB8 := Lib.hid (HB1.out.trans (hb8.mono HB1.out.size))
    have HC8 := Lib.hid (HC.out.below hb8)
    have HT8 := Lib.hid (tape_below HT1.out hb8)
    have HR8 := Lib.hid (hrow8.base (show w.heap.size + 1 ≤ W1.heap.size from Nat.le_trans (by omega) (Nat.le_of_lt (row_lt HQ.out))))
    have hTQ : w.heap.size < w1.heap.size := by omega
    clear hb8 hrow8 c0 c1 c2 c3 HQ HC HB1 HT1 HW1
    generalize w1.heap.size = Qb at *
    obtain ⟨c0, c1, c2, c3⟩ := cvCells _ _ _ _ _ _ Q8.out
    go_wp2_with fail
    clear c0 c1 c2 c3
    go_loopw [43] (fun ii wr => ∃ k : Nat, k ≤ c.r.length ∧ ii = .int .i64 k ∧ Below w8.heap.size w8 wr) (fun ii _ => c.r.length - (intOf ii).toNat)
    case atStart => exact ⟨0, by omega, rfl, Below.refl _ _⟩
    case round =>
      obtain ⟨k, hk, rfl, hbl⟩ := hrel
      have Q9 := Lib.hid ((hbl.block Qb (row_lt Q8.out)).trans Q8.out)
      have HC9 := Lib.hid (HC8.out.below hbl)
      have HR9 := Lib.hid (HR8.out.below hbl)
      have HBL := Lib.hid hbl
      have lq : Qb < wr.heap.size := row_lt Q9.out
      clear hbl
      by_cases hlt : k < c.r.length
      · obtain ⟨b, off, hA, -, hlb, e0', e1', e2'⟩ := HR9.out.evid hlt
        rw [ans_at _ _ _ hlt] at e0' e1' e2'
        have HHA := Lib.hid hA
        rw [hA]
        clear hA
        have i0 : (0 : Int) ≤ (k : Int) := Int.natCast_nonneg k
        have i1 : (k : Int) < (c.r.length : Int) := Int.ofNat_lt.2 hlt
        have HLT := Lib.hid hlt
        have hask := fun w' (h : CL w' (w.heap.size + 1) c v) => ask_x h HOK.out HLT.out (by omega)
        have hacc := fun w' (h : CL w' (w.heap.size + 1) c v) => acc_x h HOK.out HLT.out (by omega)
        obtain ⟨b2, off2, hA2, -, hlb2, g0, -⟩ := HC9.out.r2.rep hlt
        have e0 : (((an c k).r : Nat) : Int) = (k : Int) := rfl
        have e1 : (an c k).g = (rd c.r k).1 := rfl
        have e2 : (an c k).f = !acc c k 1 := rfl
        simp only [e0, e1, e2] at e0' e1' e2' hask
        have HASK := Lib.hid hask
        have HACC := Lib.hid hacc
        have HA2 := Lib.hid hA2
        clear hask hacc hA2 e0 e1 e2
        generalize acc c k 1 = a at *
        generalize (rd c.r k).1 = G at *
        obtain ⟨f, hf⟩ : ∃ f, (!a) = f := ⟨_, rfl⟩
        rw [hf] at e2' HASK
        have HF := Lib.hid hf
        clear hf
        have hnew := heap_alloc_new wr (.cells #[.int .i64 (k : Int), .int .i64 (G : Int), .bool f] 67)
        have hbx := box_below wr (.cells #[.int .i64 (k : Int), .int .i64 (G : Int), .bool f] 67)
        have QA := Lib.hid ((hbx.block Qb lq).trans Q9.out)
        have HNEW := Lib.hid hnew
        have HCA := Lib.hid (HC9.out.below hbx)
        have hgA := (hbx.cell (p := ⟨b2, off2 + k * 2, none⟩) hlb2).trans g0
        have HGA := Lib.hid hgA
        have HBX := Lib.hid hbx
        clear hnew hbx g0 hgA
        have c0 : (wr.alloc (.cells #[.int .i64 (k : Int), .int .i64 (G : Int), .bool f] 67)).cell? ⟨Qb, 0, none⟩ = some (.bool c.f) := (cvCells _ _ _ _ _ _ QA.out).1
        obtain ⟨-, c1, c2, c3⟩ := cvCells _ _ _ _ _ _ QA.out
        go_wp2_with fail
        refine (HASK.out _ HCA.out).mono ?_
        rintro e w2 ⟨rfl, hb2⟩
        have lA : wr.heap.size < (wr.alloc (.cells #[.int .i64 (k : Int), .int .i64 (G : Int), .bool f] 67)).heap.size := row_lt HNEW.out
        have hbx2 := box_below w2 (.cells #[.int .i64 (k : Int), .int .i64 (G : Int), .bool f] 67)
        have hb3 := hb2.trans (hbx2.mono hb2.size)
        have Q3 := Lib.hid ((hb3.block Qb (row_lt QA.out)).trans QA.out)
        have N3 := Lib.hid ((hb3.block wr.heap.size lA).trans HNEW.out)
        have M3 := Lib.hid (heap_alloc_new w2 (.cells #[.int .i64 (k : Int), .int .i64 (G : Int), .bool f] 67))
        have hC3 := HCA.out.below hb3
        have HC3 := Lib.hid hC3
        have HG3 := Lib.hid ((hb3.cell (p := ⟨b2, off2 + k * 2, none⟩) (Nat.lt_of_lt_of_le hlb2 HBX.out.size)).trans HGA.out)
        have HB3 := Lib.hid (HBL.out.trans ((HBX.out.trans (hb3.mono HBX.out.size)).mono HBL.out.size))
        clear hb2 hbx2 hb3 hC3 c0 c1 c2 c3 e0' e1' e2' lA
        go_wp2_with fail
        generalize wr.heap.size = X at *
        generalize w2.heap.size = Y at *
        generalize w2.alloc (.cells #[.int .i64 (k : Int), .int .i64 (G : Int), .bool f] 67) = W3 at *
        have hK : ∀ w', Below W3.heap.size W3 w' → (w'.cell? ⟨X, 0, none⟩ = some (.int .i64 (k : Int)) ∧ w'.cell? ⟨X, 1, none⟩ = some (.int .i64 (G : Int)) ∧ w'.cell? ⟨X, 2, none⟩ = some (.bool f) ∧ w'.cell? ⟨Y, 0, none⟩ = some (.int .i64 (k : Int)) ∧ w'.cell? ⟨Y, 1, none⟩ = some (.int .i64 (G : Int)) ∧ w'.cell? ⟨Y, 2, none⟩ = some (.bool f) ∧ w'.cell? ⟨Qb, 0, none⟩ = some (.bool c.f) ∧ w'.cell? ⟨Qb, 1, none⟩ = some (.slice v.A1 c.s.length v.c1) ∧ w'.cell? ⟨Qb, 2, none⟩ = some (.slice (some ⟨b2, off2, none⟩) c.r.length v.c2) ∧ w'.cell? ⟨Qb, 3, none⟩ = some (.slice v.A3 c.p.length v.c3) ∧ w'.cell? ⟨b2, off2 + k * 2, none⟩ = some (.int .i64 (G : Int)) ∧ Below W3.heap.size W3 w') := fun w' hb => by
          obtain ⟨x0, x1, x2, x3⟩ := cvCells _ _ _ _ _ _ ((hb.block Qb (row_lt Q3.out)).trans Q3.out)
          rw [HA2.out] at x2
          have y := (hb.block X (row_lt N3.out)).trans N3.out
          have z := (hb.block Y (row_lt M3.out)).trans M3.out
          have lb : b2 < W3.heap.size := block_lt_of_cell HG3.out
          refine ⟨?_, ?_, ?_, ?_, ?_, ?_, x0, x1, x2, x3, (hb.cell (p := ⟨b2, off2 + k * 2, none⟩) lb).trans HG3.out, hb⟩
          all_goals (first | (rw [cell_of_row _ _ _ _ _ _ y]; rfl) | (rw [cell_of_row _ _ _ _ _ _ z]; rfl))
        have HK := Lib.hid hK
        have hac := fun w' (hb : Below W3.heap.size W3 w') => HACC.out w' (HC3.out.below hb)
        rw [HA2.out] at hac
        have HAC := Lib.hid hac
        have hbr : Below W3.heap.size W3 W3 := Below.refl _ _
        have hbd : Below W3.heap.size W3 W3.drew := hbr.drew
        clear hK hac HACC HASK HNEW
        go_region_held3 (fun w' => w'.cell? ⟨X, 0, none⟩ = some (.int .i64 (k : Int)) ∧ w'.cell? ⟨X, 1, none⟩ = some (.int .i64 (G : Int)) ∧ w'.cell? ⟨X, 2, none⟩ = some (.bool f) ∧ w'.cell? ⟨Y, 0, none⟩ = some (.int .i64 (k : Int)) ∧ w'.cell? ⟨Y, 1, none⟩ = some (.int .i64 (G : Int)) ∧ w'.cell? ⟨Y, 2, none⟩ = some (.bool f) ∧ w'.cell? ⟨Qb, 0, none⟩ = some (.bool c.f) ∧ w'.cell? ⟨Qb, 1, none⟩ = some (.slice v.A1 c.s.length v.c1) ∧ w'.cell? ⟨Qb, 2, none⟩ = some (.slice (some ⟨b2, off2, none⟩) c.r.length v.c2) ∧ w'.cell? ⟨Qb, 3, none⟩ = some (.slice v.A3 c.p.length v.c3) ∧ w'.cell? ⟨b2, off2 + k * 2, none⟩ = some (.int .i64 (G : Int)) ∧ Below W3.heap.size W3 w')
          (first | (with_reducible exact HK.out _ hbr) | (with_reducible exact HK.out _ hbd) | (with_reducible exact HK.out _ hba))
          (first
            | (go_at_call 30; (with_reducible refine (HAC.out _ ?_).mono ?_); (first | (with_reducible exact hbr) | (with_reducible exact hbd)); rintro e wa ⟨rfl, hba0⟩; have hba : Below W3.heap.size W3 wa := (by first | exact hbr.trans hba0 | exact hbd.trans hba0); clear hba0))
        have HBW := Lib.hid (HB3.out.trans (hba.mono HB3.out.size))
        clear hbr hbd hba
        go_split_ands
        go_wp2_with fail
        · have h2 : (f == a) = true := by assumption
          exact absurd h2 (by rw [← HF.out]; cases a <;> decide)
        · exact ⟨⟨k + 1, by omega, by go_num, HBW.out⟩, by simp [intOf]; omega⟩
      · obtain rfl : k = c.r.length := by omega
        have HTW := Lib.hid (tape_below HT8.out HBL.out)
        have HBK := Lib.hid (HB8.out.trans (HBL.out.mono HB8.out.size))
        clear HBL Q8 HC8 HT8 HR8 HB8
        have he : ∀ w', TapeOk w' w.heap.size → w.heap.size < w'.heap.size → Calls Try.prog 23 #[.pointer (some ⟨w.heap.size, 0, none⟩), .agg #[.bool c.f, .slice v.A1 c.s.length v.c1, .slice v.A2 c.r.length v.c2, .slice v.A3 c.p.length v.c3]] w' (EPost w.heap.size c w') := fun w' ht hl => event_any w.heap.size 12 c v w' ht hl HOK.out (by omega)
        have ha : ∀ (x : Ev) w', CL w' (w.heap.size + 1) c v → Cl.Good c x → Calls Try.prog 25 #[.agg #[.bool c.f, .slice v.A1 c.s.length v.c1, .slice v.A2 c.r.length v.c2, .slice v.A3 c.p.length v.c3], .agg (ec x.k x.i x.q x.b)] w' (AForm c x w') := fun x w' hc hg => (refapply_any 12 (w.heap.size + 1) c v x w' hc HOK.out (by omega) hg).mono fun _ _ hp => aform hp
        have HE := Lib.hid he
        have HA := Lib.hid ha
        have hTr : w.heap.size < wr.heap.size := by omega
        have hkk : ∀ w', wr.grownBy w' (some w.heap.size) → TapeOk w' w.heap.size → (w'.cell? ⟨Qb, 0, none⟩ = some (.bool c.f) ∧ w'.cell? ⟨Qb, 1, none⟩ = some (.slice v.A1 c.s.length v.c1) ∧ w'.cell? ⟨Qb, 2, none⟩ = some (.slice v.A2 c.r.length v.c2) ∧ w'.cell? ⟨Qb, 3, none⟩ = some (.slice v.A3 c.p.length v.c3) ∧ wr.grownBy w' (some w.heap.size) ∧ TapeOk w' w.heap.size) := fun w' hg ht => by
          obtain ⟨k0, k1, k2, k3⟩ := cvCells _ _ _ _ _ _ ((hg.block Qb lq (by simp; omega)).trans Q9.out)
          exact ⟨k0, k1, k2, k3, hg, ht⟩
        have HK := Lib.hid hkk
        have gd : wr.grownBy wr.drew (some w.heap.size) := gb_drewN wr 1 _
        have td : TapeOk wr.drew w.heap.size := HTW.out
        have ga0 : wr.grownBy (wr.alloc (.cells zC 25)).drew (some w.heap.size) := (gb_trans (gb_row (gb_of_below (box_below wr (.cells zC 25)))) (gb_drewN _ 1 _))
        have ta0 : TapeOk (wr.alloc (.cells zC 25)).drew w.heap.size := tape_new2 HTW.out _
        clear he ha hkk
        go_wp2_with fail
        go_region_held3 (fun w' => w'.cell? ⟨Qb, 0, none⟩ = some (.bool c.f) ∧ w'.cell? ⟨Qb, 1, none⟩ = some (.slice v.A1 c.s.length v.c1) ∧ w'.cell? ⟨Qb, 2, none⟩ = some (.slice v.A2 c.r.length v.c2) ∧ w'.cell? ⟨Qb, 3, none⟩ = some (.slice v.A3 c.p.length v.c3) ∧ wr.grownBy w' (some w.heap.size) ∧ TapeOk w' w.heap.size)
          (first | (with_reducible assumption) | (with_reducible exact HK.out _ gd td) | (with_reducible exact HK.out _ ga ta) | (with_reducible exact HK.out _ gb tb) | (with_reducible exact HK.out _ (gb_alloc2 ga _) (tape_new2 ta _)) | (with_reducible exact HK.out _ (gb_alloc2 gb _) (tape_new2 tb _)) | (with_reducible exact HK.out _ (gb_far4 gb (Nat.le_refl _)) (tape_far4 tb hTr)) | (with_reducible exact HK.out _ (gb_far4 gb (World.grownBy.size ga)) (tape_far4 tb hTa)) | exact HK.out _ ga0 ta0)
          (first
            | (go_at_call 23; (with_reducible refine (HE.out _ ?_ ?_).mono ?_); (go_split_ands; with_reducible assumption); (go_split_ands; exact Nat.lt_of_lt_of_le hTr (World.grownBy.size (by with_reducible assumption))); rintro e wa ⟨x, hgood, rfl, hga, hta⟩; go_split_ands; have ga : wr.grownBy wa (some w.heap.size) := gb_trans (by with_reducible assumption) hga; have ta := hta; have hTa : w.heap.size < wa.heap.size := Nat.lt_of_lt_of_le hTr ga.size; have XG := Lib.hid hgood; have GA := Lib.hid ga; (first | (have NA := Lib.hid (show wa.heap[wr.heap.size]? = some (.cells zC 25 (0, 0)) from (hga.block wr.heap.size (by simp) (by simp; omega)).trans (heap_alloc_new wr (.cells zC 25)))) | skip); clear hga hta hgood)
            | (go_at_call 25; (with_reducible refine (HA.out x _ ?_ ?_).mono ?_); (go_split_ands; exact HC9.out.grown (row := some w.heap.size) (by with_reducible assumption) (fun g e => by cases e; omega)); (exact XG.out); rintro e wb ⟨f', B1, n1, d1, B2, n2, d2, B3, n3, d3, er, rfl, hout⟩; go_split_ands; have gb : wr.grownBy wb (some w.heap.size) := gb_trans (by with_reducible assumption) (gb_row (gb_of_below hout.2)); have tb : TapeOk wb w.heap.size := tape_below (by with_reducible assumption) hout.2; have HOUT := Lib.hid hout; (first | (have NB := Lib.hid (show wb.heap[wa.heap.size]? = some (.cells zC 25 (0, 0)) from (hout.2.block wa.heap.size (by simp)).trans (heap_alloc_new wa (.cells zC 25))); obtain ⟨y0, y1, y2, y3, y4, y5, y6, y7⟩ := zCells NB.out) | (have NB := Lib.hid (show wb.heap[wr.heap.size]? = some (.cells zC 25 (0, 0)) from (hout.2.block wr.heap.size (row_lt NA.out)).trans NA.out); obtain ⟨y0, y1, y2, y3, y4, y5, y6, y7⟩ := zCells NB.out) | skip); clear hout))
        · have HLB := Lib.hid (show Qb + 1 ≤ wb.heap.size from Nat.lt_of_lt_of_le lq gb.size)
          obtain ⟨W6, hW6⟩ : ∃ W6, wb.alloc (.cells #[.bool f', .slice B1 n1 d1, .slice B2 n2 d2, .slice B3 n3 d3] 25) = W6 := ⟨_, rfl⟩
          rw [hW6]
          have gW : wr.grownBy W6 (some w.heap.size) := by rw [← hW6]; exact gb_alloc2 gb _
          have fN : W6.heap[wb.heap.size]? = some (.cells (fc f' B1 n1 d1 B2 n2 d2 B3 n3 d3) 25 (0, 0)) := by rw [← hW6]; exact heap_alloc_new wb _
          have FO := Lib.hid (show ∀ v' B0, CL wb B0 (ap c x) v' → True → CL W6 0 (ap c x) v' from fun v' B0 h2 _ => by rw [← hW6]; exact (h2.below (box_below _ _)).base (Nat.zero_le _))
          have hP : Qb < wb.heap.size := HLB.out
          obtain ⟨P, hPP⟩ : ∃ P, wb.heap.size = P := ⟨_, rfl⟩
          rw [hPP] at fN hP ⊢
          clear hPP
          have HGW := Lib.hid gW
          have HFN := Lib.hid fN
          have HB6 := Lib.hid (HBK.out.grown gW HBK.out.size (fun g e => by cases e; exact Nat.le_refl _))
          have HR6 := Lib.hid (HR9.out.grown gW (fun g e => by cases e; exact Nat.lt_succ_self _))
          clear gW hW6 gd td ga0 ta0 fN HR9 HC9 Q9 lq
          go_split_ands
          rcases HOUT.out.1 with ⟨hfit, rfl, v', hcs, hcl⟩ | ⟨hfit, rfl, hcs⟩
          · have HCX := Lib.hid (FO.out v' _ hcl (by first | trivial | exact row_lt NA.out | (rw [← HPP.out]; exact row_lt NA.out) | (rw [← HPP.out]; simp)))
            have HOKD := Lib.hid (ok_ap HOK.out XG.out hfit)
            have HRD := Lib.hid (ap_r XG.out)
            have QP := Lib.hid (show W6.heap[P]? = some (.cells (cv (ap c x) v') 25 (0, 0)) by rw [← hcs]; exact HFN.out)
            clear hcs hcl hfit HFN HOUT FO
            generalize ap c x = D at *
            go_wp2_with fail
            go_loopw [100] (fun ii wq => ∃ k : Nat, k ≤ c.r.length ∧ ii = .int .i64 k ∧ Below W6.heap.size W6 wq) (fun ii _ => c.r.length - (intOf ii).toNat)
            case atStart => exact ⟨0, by omega, rfl, Below.refl _ _⟩
            case round =>
              obtain ⟨k, hk, rfl, hbl⟩ := hrel
              have Q9 := Lib.hid ((hbl.block P (row_lt QP.out)).trans QP.out)
              have HC9 := Lib.hid (HCX.out.below hbl)
              have HR9 := Lib.hid (HR6.out.below hbl)
              have HB9 := Lib.hid (HB6.out.trans (hbl.mono HB6.out.size))
              have HBL := Lib.hid hbl
              have lq : P < wr.heap.size := row_lt Q9.out
              clear hbl
              by_cases hlt : k < c.r.length
              · obtain ⟨b, off, hA, -, hlb, e0', e1', e2'⟩ := HR9.out.evid hlt
                rw [ans_at _ _ _ hlt] at e0' e1' e2'
                rw [hA]
                have hkD : k < D.r.length := by rw [HRD.out]; exact hlt
                have HKD := Lib.hid hkD
                have i0 : (0 : Int) ≤ (k : Int) := Int.natCast_nonneg k
                have i1 : (k : Int) < (c.r.length : Int) := Int.ofNat_lt.2 hlt
                have hask := fun w' (h : CL w' 0 D v') => ask_x h HOKD.out HKD.out (by omega)
                have hrig := fun w' A (l : List En) (h : CL w' 0 D v') (hl : Row w' 0 3 A 1 (xl l)) (hr : ∀ j, j < 1 → (l.getD j e0).r < D.r.length) => right_x (cc := 1) h HOKD.out hl hr (by omega) (by omega)
                have q0 : (((an c k).r : Nat) : Int) = (k : Int) := rfl
                have q1 : (((an D k).r : Nat) : Int) = (k : Int) := rfl
                have hR := right_one D (an c k)
                rw [mt_two (show (an c k).r = k from rfl)] at hR
                have q2 : an c k = ⟨k, (an c k).g, (an c k).f⟩ := rfl
                rw [q2] at hR
                clear q2 hkD
                simp only [q0, q1] at e0' hask
                generalize (an c k).g = g1 at *
                generalize (an c k).f = f1 at *
                generalize (an D k).g = g2 at *
                generalize (an D k).f = f2 at *
                have HASK := Lib.hid hask
                have hrl : ∀ j, j < 1 → ((([⟨k, g1, f1⟩] : List En)).getD j e0).r < D.r.length := fun j hj => by obtain rfl : j = 0 := by omega
                                                                                                                 exact HKD.out
                have hri := fun w' A (h : CL w' 0 D v') (hl : Row w' 0 3 A 1 (xl [⟨k, g1, f1⟩])) => hrig w' A [⟨k, g1, f1⟩] h hl hrl
                obtain ⟨rb, hrb⟩ : ∃ rb, (g1 == g2 && f1 == f2) = rb := ⟨_, rfl⟩
                rw [hR, hrb] at hri
                have hcase : (g1 = g2 ∧ f1 = f2 ∧ rb = true) ∨ (g1 = g2 ∧ f1 = true ∧ f2 = false ∧ rb = false) ∨ (g1 = g2 ∧ f1 = false ∧ f2 = true ∧ rb = false) ∨ (g1 ≠ g2 ∧ rb = false) := by
                  rw [← hrb]
                  by_cases hg : g1 = g2
                  · subst hg
                    cases f1 <;> cases f2 <;> simp
                  · simp [hg]
                have HCS := Lib.hid hcase
                clear hcase hrb
                have HRI := Lib.hid hri
                clear hask hrig hR q0 q1 hri hrl
                have hnew := heap_alloc_new wr (.cells #[.int .i64 (k : Int), .int .i64 (g1 : Int), .bool f1] 67)
                have hbx := box_below wr (.cells #[.int .i64 (k : Int), .int .i64 (g1 : Int), .bool f1] 67)
                have QA := Lib.hid ((hbx.block P lq).trans Q9.out)
                have HNEW := Lib.hid hnew
                have HCA := Lib.hid (HC9.out.below hbx)
                have HBXX := Lib.hid hbx
                clear hnew hbx
                obtain ⟨c0, c1, c2, c3⟩ := cvCells _ _ _ _ _ _ QA.out
                go_wp2_with fail
                refine (HASK.out _ HCA.out).mono ?_
                rintro e w2 ⟨rfl, hb2⟩
                have lA : wr.heap.size < (wr.alloc (.cells #[.int .i64 (k : Int), .int .i64 (g1 : Int), .bool f1] 67)).heap.size := row_lt HNEW.out
                have hbx2 := box_below w2 (.cells #[.int .i64 (k : Int), .int .i64 (g2 : Int), .bool f2] 67)
                have hb3 := hb2.trans (hbx2.mono hb2.size)
                have Q3 := Lib.hid ((hb3.block P (row_lt QA.out)).trans QA.out)
                have N3 := Lib.hid ((hb3.block wr.heap.size lA).trans HNEW.out)
                have M3 := Lib.hid (heap_alloc_new w2 (.cells #[.int .i64 (k : Int), .int .i64 (g2 : Int), .bool f2] 67))
                have HC3 := Lib.hid (HCA.out.below hb3)
                have HB3 := Lib.hid (HBL.out.trans ((HBXX.out.trans (hb3.mono HBXX.out.size)).mono HBL.out.size))
                clear hb2 hbx2 hb3 c0 c1 c2 c3 e0' e1' e2' lA
                go_wp2_with fail
                generalize wr.heap.size = X at *
                generalize w2.heap.size = Y at *
                generalize w2.alloc (.cells #[.int .i64 (k : Int), .int .i64 (g2 : Int), .bool f2] 67) = W3 at *
                have hK : ∀ w', Below W3.heap.size W3 w' → (w'.cell? ⟨X, 0, none⟩ = some (.int .i64 (k : Int)) ∧ w'.cell? ⟨X, 1, none⟩ = some (.int .i64 (g1 : Int)) ∧ w'.cell? ⟨X, 2, none⟩ = some (.bool f1) ∧ w'.cell? ⟨Y, 0, none⟩ = some (.int .i64 (k : Int)) ∧ w'.cell? ⟨Y, 1, none⟩ = some (.int .i64 (g2 : Int)) ∧ w'.cell? ⟨Y, 2, none⟩ = some (.bool f2) ∧ w'.cell? ⟨P, 0, none⟩ = some (.bool D.f) ∧ w'.cell? ⟨P, 1, none⟩ = some (.slice v'.A1 D.s.length v'.c1) ∧ w'.cell? ⟨P, 2, none⟩ = some (.slice v'.A2 D.r.length v'.c2) ∧ w'.cell? ⟨P, 3, none⟩ = some (.slice v'.A3 D.p.length v'.c3) ∧ Below W3.heap.size W3 w') := fun w' hb => by
                  obtain ⟨x0, x1, x2, x3⟩ := cvCells _ _ _ _ _ _ ((hb.block P (row_lt Q3.out)).trans Q3.out)
                  have y := (hb.block X (row_lt N3.out)).trans N3.out
                  have z := (hb.block Y (row_lt M3.out)).trans M3.out
                  refine ⟨?_, ?_, ?_, ?_, ?_, ?_, x0, x1, x2, x3, hb⟩
                  all_goals (first | (rw [cell_of_row _ _ _ _ _ _ y]; rfl) | (rw [cell_of_row _ _ _ _ _ _ z]; rfl))
                have HK := Lib.hid hK
                have hac := fun w' A (hb : Below W3.heap.size W3 w') => HRI.out w' A (HC3.out.below hb)
                have HAC := Lib.hid hac
                have hbr : Below W3.heap.size W3 W3 := Below.refl _ _
                have hbd : Below W3.heap.size W3 W3.drew := hbr.drew
                have hbs : Below W3.heap.size W3 (W3.alloc (.cells #[.int .i64 (k : Int), .int .i64 (g1 : Int), .bool f1] 67)).drew := (box_below W3 _).drew
                have hro := (row_one W3 k g1 f1 67).drew
                clear hK hac HASK HNEW HRI
                rcases HCS.out with ⟨hg, hf, hb⟩ | ⟨hg, hf, hf', hb⟩ | ⟨hg, hf, hf', hb⟩ | ⟨hg, hb⟩
                · clear HCS
                  subst hg
                  subst hf
                  subst hb
                  go_region_held3 (fun w' => w'.cell? ⟨X, 0, none⟩ = some (.int .i64 (k : Int)) ∧ w'.cell? ⟨X, 1, none⟩ = some (.int .i64 (g1 : Int)) ∧ w'.cell? ⟨X, 2, none⟩ = some (.bool f1) ∧ w'.cell? ⟨Y, 0, none⟩ = some (.int .i64 (k : Int)) ∧ w'.cell? ⟨Y, 1, none⟩ = some (.int .i64 (g1 : Int)) ∧ w'.cell? ⟨Y, 2, none⟩ = some (.bool f1) ∧ w'.cell? ⟨P, 0, none⟩ = some (.bool D.f) ∧ w'.cell? ⟨P, 1, none⟩ = some (.slice v'.A1 D.s.length v'.c1) ∧ w'.cell? ⟨P, 2, none⟩ = some (.slice v'.A2 D.r.length v'.c2) ∧ w'.cell? ⟨P, 3, none⟩ = some (.slice v'.A3 D.p.length v'.c3) ∧ Below W3.heap.size W3 w')
                    (first | (with_reducible exact HK.out _ hbr) | (with_reducible exact HK.out _ hbd) | (with_reducible exact HK.out _ hbs) | (with_reducible exact HK.out _ hba))
                    (first
                      | (go_at_call 45; (refine (HAC.out _ _ hbs hro).mono ?_); rintro e wa ⟨rfl, hba0⟩; have hba : Below W3.heap.size W3 wa := hbs.trans (hba0.mono hbs.size); clear hba0))
                  have HBW := Lib.hid (HB3.out.trans (hba.mono HB3.out.size))
                  clear hbr hbd hba hbs hro
                  go_split_ands
                  go_wp2_with fail
                  exact ⟨⟨k + 1, by omega, by go_num, HBW.out⟩, by simp [intOf]; omega⟩
                · clear HCS
                  subst hg
                  subst hf
                  subst hf'
                  subst hb
                  go_region_held3 (fun w' => w'.cell? ⟨X, 0, none⟩ = some (.int .i64 (k : Int)) ∧ w'.cell? ⟨X, 1, none⟩ = some (.int .i64 (g1 : Int)) ∧ w'.cell? ⟨X, 2, none⟩ = some (.bool true) ∧ w'.cell? ⟨Y, 0, none⟩ = some (.int .i64 (k : Int)) ∧ w'.cell? ⟨Y, 1, none⟩ = some (.int .i64 (g1 : Int)) ∧ w'.cell? ⟨Y, 2, none⟩ = some (.bool false) ∧ w'.cell? ⟨P, 0, none⟩ = some (.bool D.f) ∧ w'.cell? ⟨P, 1, none⟩ = some (.slice v'.A1 D.s.length v'.c1) ∧ w'.cell? ⟨P, 2, none⟩ = some (.slice v'.A2 D.r.length v'.c2) ∧ w'.cell? ⟨P, 3, none⟩ = some (.slice v'.A3 D.p.length v'.c3) ∧ Below W3.heap.size W3 w')
                    (first | (with_reducible exact HK.out _ hbr) | (with_reducible exact HK.out _ hbd) | (with_reducible exact HK.out _ hbs) | (with_reducible exact HK.out _ hba))
                    (first
                      | (go_at_call 45; (refine (HAC.out _ _ hbs hro).mono ?_); rintro e wa ⟨rfl, hba0⟩; have hba : Below W3.heap.size W3 wa := hbs.trans (hba0.mono hbs.size); clear hba0))
                  have HBW := Lib.hid (HB3.out.trans (hba.mono HB3.out.size))
                  clear hbr hbd hba hbs hro
                  go_split_ands
                  go_wp2_with fail
                  exact ⟨⟨k + 1, by omega, by go_num, HBW.out⟩, by simp [intOf]; omega⟩
                · clear HCS
                  subst hg
                  subst hf
                  subst hf'
                  subst hb
                  go_region_held3 (fun w' => w'.cell? ⟨X, 0, none⟩ = some (.int .i64 (k : Int)) ∧ w'.cell? ⟨X, 1, none⟩ = some (.int .i64 (g1 : Int)) ∧ w'.cell? ⟨X, 2, none⟩ = some (.bool false) ∧ w'.cell? ⟨Y, 0, none⟩ = some (.int .i64 (k : Int)) ∧ w'.cell? ⟨Y, 1, none⟩ = some (.int .i64 (g1 : Int)) ∧ w'.cell? ⟨Y, 2, none⟩ = some (.bool true) ∧ w'.cell? ⟨P, 0, none⟩ = some (.bool D.f) ∧ w'.cell? ⟨P, 1, none⟩ = some (.slice v'.A1 D.s.length v'.c1) ∧ w'.cell? ⟨P, 2, none⟩ = some (.slice v'.A2 D.r.length v'.c2) ∧ w'.cell? ⟨P, 3, none⟩ = some (.slice v'.A3 D.p.length v'.c3) ∧ Below W3.heap.size W3 w')
                    (first | (with_reducible exact HK.out _ hbr) | (with_reducible exact HK.out _ hbd) | (with_reducible exact HK.out _ hbs) | (with_reducible exact HK.out _ hba))
                    (first
                      | (go_at_call 45; (refine (HAC.out _ _ hbs hro).mono ?_); rintro e wa ⟨rfl, hba0⟩; have hba : Below W3.heap.size W3 wa := hbs.trans (hba0.mono hbs.size); clear hba0))
                  have HBW := Lib.hid (HB3.out.trans (hba.mono HB3.out.size))
                  clear hbr hbd hba hbs hro
                  go_split_ands
                  go_wp2_with fail
                  exact ⟨⟨k + 1, by omega, by go_num, HBW.out⟩, by simp [intOf]; omega⟩
                · clear HCS
                  subst hb
                  have hne : ¬ ((g1 : Int) = (g2 : Int)) := fun e => hg (by omega)
                  have hne2 : ((g1 : Int) == (g2 : Int)) = false := by simpa using hne
                  go_region_held3 (fun w' => w'.cell? ⟨X, 0, none⟩ = some (.int .i64 (k : Int)) ∧ w'.cell? ⟨X, 1, none⟩ = some (.int .i64 (g1 : Int)) ∧ w'.cell? ⟨X, 2, none⟩ = some (.bool f1) ∧ w'.cell? ⟨Y, 0, none⟩ = some (.int .i64 (k : Int)) ∧ w'.cell? ⟨Y, 1, none⟩ = some (.int .i64 (g2 : Int)) ∧ w'.cell? ⟨Y, 2, none⟩ = some (.bool f2) ∧ w'.cell? ⟨P, 0, none⟩ = some (.bool D.f) ∧ w'.cell? ⟨P, 1, none⟩ = some (.slice v'.A1 D.s.length v'.c1) ∧ w'.cell? ⟨P, 2, none⟩ = some (.slice v'.A2 D.r.length v'.c2) ∧ w'.cell? ⟨P, 3, none⟩ = some (.slice v'.A3 D.p.length v'.c3) ∧ Below W3.heap.size W3 w')
                    (first | (with_reducible exact HK.out _ hbr) | (with_reducible exact HK.out _ hbd) | (with_reducible exact HK.out _ hbs) | (with_reducible exact HK.out _ hba))
                    (first
                      | (go_at_call 45; (refine (HAC.out _ _ hbs hro).mono ?_); rintro e wa ⟨rfl, hba0⟩; have hba : Below W3.heap.size W3 wa := hbs.trans (hba0.mono hbs.size); clear hba0))
                  have HBW := Lib.hid (HB3.out.trans (hba.mono HB3.out.size))
                  clear hbr hbd hba hbs hro
                  go_split_ands
                  go_wp2_with fail
                  exact ⟨⟨k + 1, by omega, by go_num, HBW.out⟩, by simp [intOf]; omega⟩
              · obtain rfl : k = c.r.length := by omega
                go_wp2_with fail
                refine (awake38 _).mono ?_
                rintro e w11 ⟨rfl, hb11⟩
                have HB11 := Lib.hid (HB9.out.trans (hb11.mono HB9.out.size))
                clear hb11
                go_wp2_with fail
                go_ret
                exact ⟨rfl, HB11.out⟩
          · clear hcs hfit
            go_wp2_with fail
            refine (awake38 _).mono ?_
            rintro e w11 ⟨rfl, hb11⟩
            have HB11 := Lib.hid (HB6.out.trans (hb11.mono HB6.out.size))
            clear hb11
            go_wp2_with fail
            go_ret
            exact ⟨rfl, HB11.out⟩
        · rw [set4row NB.out rfl]
          have HLB := Lib.hid (show Qb + 1 ≤ wa.heap.size from Nat.lt_of_lt_of_le lq ga.size)
          obtain ⟨W6, hW6⟩ : ∃ W6, wb.setRow wa.heap.size #[.bool f', .slice B1 n1 d1, .slice B2 n2 d2, .slice B3 n3 d3] = W6 := ⟨_, rfl⟩
          rw [hW6]
          have gW : wr.grownBy W6 (some w.heap.size) := by rw [← hW6]; exact gb_far gb ga.size _
          have fN : W6.heap[wa.heap.size]? = some (.cells (fc f' B1 n1 d1 B2 n2 d2 B3 n3 d3) 25 (0, 0)) := by rw [← hW6]; exact setRow_heap _ _ _ _ _ _ NB.out
          have FO := Lib.hid (show ∀ v' B0, CL wb B0 (ap c x) v' → wa.heap.size < B0 → CL W6 0 (ap c x) v' from fun v' B0 h2 h1 => by rw [← hW6]; exact (h2.set h1 _).base (Nat.zero_le _))
          have hP : Qb < wa.heap.size := HLB.out
          obtain ⟨P, hPP⟩ : ∃ P, wa.heap.size = P := ⟨_, rfl⟩
          have lNB := row_lt NB.out
          have HLN := Lib.hid lNB
          rw [hPP] at fN hP FO ⊢
          have HPP := Lib.hid hPP
          clear hPP lNB
          have HGW := Lib.hid gW
          have HFN := Lib.hid fN
          have HB6 := Lib.hid (HBK.out.grown gW HBK.out.size (fun g e => by cases e; exact Nat.le_refl _))
          have HR6 := Lib.hid (HR9.out.grown gW (fun g e => by cases e; exact Nat.lt_succ_self _))
          clear gW hW6 gd td ga0 ta0 fN HR9 HC9 Q9 lq
          go_split_ands
          rcases HOUT.out.1 with ⟨hfit, rfl, v', hcs, hcl⟩ | ⟨hfit, rfl, hcs⟩
          · have HCX := Lib.hid (FO.out v' _ hcl (by first | trivial | exact row_lt NA.out | (rw [← HPP.out]; exact row_lt NA.out) | (rw [← HPP.out]; simp)))
            have HOKD := Lib.hid (ok_ap HOK.out XG.out hfit)
            have HRD := Lib.hid (ap_r XG.out)
            have QP := Lib.hid (show W6.heap[P]? = some (.cells (cv (ap c x) v') 25 (0, 0)) by rw [← hcs]; exact HFN.out)
            clear hcs hcl hfit HFN HOUT FO
            generalize ap c x = D at *
            go_wp2_with fail
            go_loopw [100] (fun ii wq => ∃ k : Nat, k ≤ c.r.length ∧ ii = .int .i64 k ∧ Below W6.heap.size W6 wq) (fun ii _ => c.r.length - (intOf ii).toNat)
            case atStart => exact ⟨0, by omega, rfl, Below.refl _ _⟩
            case round =>
              obtain ⟨k, hk, rfl, hbl⟩ := hrel
              have Q9 := Lib.hid ((hbl.block P (row_lt QP.out)).trans QP.out)
              have HC9 := Lib.hid (HCX.out.below hbl)
              have HR9 := Lib.hid (HR6.out.below hbl)
              have HB9 := Lib.hid (HB6.out.trans (hbl.mono HB6.out.size))
              have HBL := Lib.hid hbl
              have lq : P < wr.heap.size := row_lt Q9.out
              clear hbl
              by_cases hlt : k < c.r.length
              · obtain ⟨b, off, hA, -, hlb, e0', e1', e2'⟩ := HR9.out.evid hlt
                rw [ans_at _ _ _ hlt] at e0' e1' e2'
                rw [hA]
                have hkD : k < D.r.length := by rw [HRD.out]; exact hlt
                have HKD := Lib.hid hkD
                have i0 : (0 : Int) ≤ (k : Int) := Int.natCast_nonneg k
                have i1 : (k : Int) < (c.r.length : Int) := Int.ofNat_lt.2 hlt
                have hask := fun w' (h : CL w' 0 D v') => ask_x h HOKD.out HKD.out (by omega)
                have hrig := fun w' A (l : List En) (h : CL w' 0 D v') (hl : Row w' 0 3 A 1 (xl l)) (hr : ∀ j, j < 1 → (l.getD j e0).r < D.r.length) => right_x (cc := 1) h HOKD.out hl hr (by omega) (by omega)
                have q0 : (((an c k).r : Nat) : Int) = (k : Int) := rfl
                have q1 : (((an D k).r : Nat) : Int) = (k : Int) := rfl
                have hR := right_one D (an c k)
                rw [mt_two (show (an c k).r = k from rfl)] at hR
                have q2 : an c k = ⟨k, (an c k).g, (an c k).f⟩ := rfl
                rw [q2] at hR
                clear q2 hkD
                simp only [q0, q1] at e0' hask
                generalize (an c k).g = g1 at *
                generalize (an c k).f = f1 at *
                generalize (an D k).g = g2 at *
                generalize (an D k).f = f2 at *
                have HASK := Lib.hid hask
                have hrl : ∀ j, j < 1 → ((([⟨k, g1, f1⟩] : List En)).getD j e0).r < D.r.length := fun j hj => by obtain rfl : j = 0 := by omega
                                                                                                                 exact HKD.out
                have hri := fun w' A (h : CL w' 0 D v') (hl : Row w' 0 3 A 1 (xl [⟨k, g1, f1⟩])) => hrig w' A [⟨k, g1, f1⟩] h hl hrl
                obtain ⟨rb, hrb⟩ : ∃ rb, (g1 == g2 && f1 == f2) = rb := ⟨_, rfl⟩
                rw [hR, hrb] at hri
                have hcase : (g1 = g2 ∧ f1 = f2 ∧ rb = true) ∨ (g1 = g2 ∧ f1 = true ∧ f2 = false ∧ rb = false) ∨ (g1 = g2 ∧ f1 = false ∧ f2 = true ∧ rb = false) ∨ (g1 ≠ g2 ∧ rb = false) := by
                  rw [← hrb]
                  by_cases hg : g1 = g2
                  · subst hg
                    cases f1 <;> cases f2 <;> simp
                  · simp [hg]
                have HCS := Lib.hid hcase
                clear hcase hrb
                have HRI := Lib.hid hri
                clear hask hrig hR q0 q1 hri hrl
                have hnew := heap_alloc_new wr (.cells #[.int .i64 (k : Int), .int .i64 (g1 : Int), .bool f1] 67)
                have hbx := box_below wr (.cells #[.int .i64 (k : Int), .int .i64 (g1 : Int), .bool f1] 67)
                have QA := Lib.hid ((hbx.block P lq).trans Q9.out)
                have HNEW := Lib.hid hnew
                have HCA := Lib.hid (HC9.out.below hbx)
                have HBXX := Lib.hid hbx
                clear hnew hbx
                obtain ⟨c0, c1, c2, c3⟩ := cvCells _ _ _ _ _ _ QA.out
                go_wp2_with fail
                refine (HASK.out _ HCA.out).mono ?_
                rintro e w2 ⟨rfl, hb2⟩
                have lA : wr.heap.size < (wr.alloc (.cells #[.int .i64 (k : Int), .int .i64 (g1 : Int), .bool f1] 67)).heap.size := row_lt HNEW.out
                have hbx2 := box_below w2 (.cells #[.int .i64 (k : Int), .int .i64 (g2 : Int), .bool f2] 67)
                have hb3 := hb2.trans (hbx2.mono hb2.size)
                have Q3 := Lib.hid ((hb3.block P (row_lt QA.out)).trans QA.out)
                have N3 := Lib.hid ((hb3.block wr.heap.size lA).trans HNEW.out)
                have M3 := Lib.hid (heap_alloc_new w2 (.cells #[.int .i64 (k : Int), .int .i64 (g2 : Int), .bool f2] 67))
                have HC3 := Lib.hid (HCA.out.below hb3)
                have HB3 := Lib.hid (HBL.out.trans ((HBXX.out.trans (hb3.mono HBXX.out.size)).mono HBL.out.size))
                clear hb2 hbx2 hb3 c0 c1 c2 c3 e0' e1' e2' lA
                go_wp2_with fail
                generalize wr.heap.size = X at *
                generalize w2.heap.size = Y at *
                generalize w2.alloc (.cells #[.int .i64 (k : Int), .int .i64 (g2 : Int), .bool f2] 67) = W3 at *
                have hK : ∀ w', Below W3.heap.size W3 w' → (w'.cell? ⟨X, 0, none⟩ = some (.int .i64 (k : Int)) ∧ w'.cell? ⟨X, 1, none⟩ = some (.int .i64 (g1 : Int)) ∧ w'.cell? ⟨X, 2, none⟩ = some (.bool f1) ∧ w'.cell? ⟨Y, 0, none⟩ = some (.int .i64 (k : Int)) ∧ w'.cell? ⟨Y, 1, none⟩ = some (.int .i64 (g2 : Int)) ∧ w'.cell? ⟨Y, 2, none⟩ = some (.bool f2) ∧ w'.cell? ⟨P, 0, none⟩ = some (.bool D.f) ∧ w'.cell? ⟨P, 1, none⟩ = some (.slice v'.A1 D.s.length v'.c1) ∧ w'.cell? ⟨P, 2, none⟩ = some (.slice v'.A2 D.r.length v'.c2) ∧ w'.cell? ⟨P, 3, none⟩ = some (.slice v'.A3 D.p.length v'.c3) ∧ Below W3.heap.size W3 w') := fun w' hb => by
                  obtain ⟨x0, x1, x2, x3⟩ := cvCells _ _ _ _ _ _ ((hb.block P (row_lt Q3.out)).trans Q3.out)
                  have y := (hb.block X (row_lt N3.out)).trans N3.out
                  have z := (hb.block Y (row_lt M3.out)).trans M3.out
                  refine ⟨?_, ?_, ?_, ?_, ?_, ?_, x0, x1, x2, x3, hb⟩
                  all_goals (first | (rw [cell_of_row _ _ _ _ _ _ y]; rfl) | (rw [cell_of_row _ _ _ _ _ _ z]; rfl))
                have HK := Lib.hid hK
                have hac := fun w' A (hb : Below W3.heap.size W3 w') => HRI.out w' A (HC3.out.below hb)
                have HAC := Lib.hid hac
                have hbr : Below W3.heap.size W3 W3 := Below.refl _ _
                have hbd : Below W3.heap.size W3 W3.drew := hbr.drew
                have hbs : Below W3.heap.size W3 (W3.alloc (.cells #[.int .i64 (k : Int), .int .i64 (g1 : Int), .bool f1] 67)).drew := (box_below W3 _).drew
                have hro := (row_one W3 k g1 f1 67).drew
                clear hK hac HASK HNEW HRI
                rcases HCS.out with ⟨hg, hf, hb⟩ | ⟨hg, hf, hf', hb⟩ | ⟨hg, hf, hf', hb⟩ | ⟨hg, hb⟩
                · clear HCS
                  subst hg
                  subst hf
                  subst hb
                  go_region_held3 (fun w' => w'.cell? ⟨X, 0, none⟩ = some (.int .i64 (k : Int)) ∧ w'.cell? ⟨X, 1, none⟩ = some (.int .i64 (g1 : Int)) ∧ w'.cell? ⟨X, 2, none⟩ = some (.bool f1) ∧ w'.cell? ⟨Y, 0, none⟩ = some (.int .i64 (k : Int)) ∧ w'.cell? ⟨Y, 1, none⟩ = some (.int .i64 (g1 : Int)) ∧ w'.cell? ⟨Y, 2, none⟩ = some (.bool f1) ∧ w'.cell? ⟨P, 0, none⟩ = some (.bool D.f) ∧ w'.cell? ⟨P, 1, none⟩ = some (.slice v'.A1 D.s.length v'.c1) ∧ w'.cell? ⟨P, 2, none⟩ = some (.slice v'.A2 D.r.length v'.c2) ∧ w'.cell? ⟨P, 3, none⟩ = some (.slice v'.A3 D.p.length v'.c3) ∧ Below W3.heap.size W3 w')
                    (first | (with_reducible exact HK.out _ hbr) | (with_reducible exact HK.out _ hbd) | (with_reducible exact HK.out _ hbs) | (with_reducible exact HK.out _ hba))
                    (first
                      | (go_at_call 45; (refine (HAC.out _ _ hbs hro).mono ?_); rintro e wa ⟨rfl, hba0⟩; have hba : Below W3.heap.size W3 wa := hbs.trans (hba0.mono hbs.size); clear hba0))
                  have HBW := Lib.hid (HB3.out.trans (hba.mono HB3.out.size))
                  clear hbr hbd hba hbs hro
                  go_split_ands
                  go_wp2_with fail
                  exact ⟨⟨k + 1, by omega, by go_num, HBW.out⟩, by simp [intOf]; omega⟩
                · clear HCS
                  subst hg
                  subst hf
                  subst hf'
                  subst hb
                  go_region_held3 (fun w' => w'.cell? ⟨X, 0, none⟩ = some (.int .i64 (k : Int)) ∧ w'.cell? ⟨X, 1, none⟩ = some (.int .i64 (g1 : Int)) ∧ w'.cell? ⟨X, 2, none⟩ = some (.bool true) ∧ w'.cell? ⟨Y, 0, none⟩ = some (.int .i64 (k : Int)) ∧ w'.cell? ⟨Y, 1, none⟩ = some (.int .i64 (g1 : Int)) ∧ w'.cell? ⟨Y, 2, none⟩ = some (.bool false) ∧ w'.cell? ⟨P, 0, none⟩ = some (.bool D.f) ∧ w'.cell? ⟨P, 1, none⟩ = some (.slice v'.A1 D.s.length v'.c1) ∧ w'.cell? ⟨P, 2, none⟩ = some (.slice v'.A2 D.r.length v'.c2) ∧ w'.cell? ⟨P, 3, none⟩ = some (.slice v'.A3 D.p.length v'.c3) ∧ Below W3.heap.size W3 w')
                    (first | (with_reducible exact HK.out _ hbr) | (with_reducible exact HK.out _ hbd) | (with_reducible exact HK.out _ hbs) | (with_reducible exact HK.out _ hba))
                    (first
                      | (go_at_call 45; (refine (HAC.out _ _ hbs hro).mono ?_); rintro e wa ⟨rfl, hba0⟩; have hba : Below W3.heap.size W3 wa := hbs.trans (hba0.mono hbs.size); clear hba0))
                  have HBW := Lib.hid (HB3.out.trans (hba.mono HB3.out.size))
                  clear hbr hbd hba hbs hro
                  go_split_ands
                  go_wp2_with fail
                  exact ⟨⟨k + 1, by omega, by go_num, HBW.out⟩, by simp [intOf]; omega⟩
                · clear HCS
                  subst hg
                  subst hf
                  subst hf'
                  subst hb
                  go_region_held3 (fun w' => w'.cell? ⟨X, 0, none⟩ = some (.int .i64 (k : Int)) ∧ w'.cell? ⟨X, 1, none⟩ = some (.int .i64 (g1 : Int)) ∧ w'.cell? ⟨X, 2, none⟩ = some (.bool false) ∧ w'.cell? ⟨Y, 0, none⟩ = some (.int .i64 (k : Int)) ∧ w'.cell? ⟨Y, 1, none⟩ = some (.int .i64 (g1 : Int)) ∧ w'.cell? ⟨Y, 2, none⟩ = some (.bool true) ∧ w'.cell? ⟨P, 0, none⟩ = some (.bool D.f) ∧ w'.cell? ⟨P, 1, none⟩ = some (.slice v'.A1 D.s.length v'.c1) ∧ w'.cell? ⟨P, 2, none⟩ = some (.slice v'.A2 D.r.length v'.c2) ∧ w'.cell? ⟨P, 3, none⟩ = some (.slice v'.A3 D.p.length v'.c3) ∧ Below W3.heap.size W3 w')
                    (first | (with_reducible exact HK.out _ hbr) | (with_reducible exact HK.out _ hbd) | (with_reducible exact HK.out _ hbs) | (with_reducible exact HK.out _ hba))
                    (first
                      | (go_at_call 45; (refine (HAC.out _ _ hbs hro).mono ?_); rintro e wa ⟨rfl, hba0⟩; have hba : Below W3.heap.size W3 wa := hbs.trans (hba0.mono hbs.size); clear hba0))
                  have HBW := Lib.hid (HB3.out.trans (hba.mono HB3.out.size))
                  clear hbr hbd hba hbs hro
                  go_split_ands
                  go_wp2_with fail
                  exact ⟨⟨k + 1, by omega, by go_num, HBW.out⟩, by simp [intOf]; omega⟩
                · clear HCS
                  subst hb
                  have hne : ¬ ((g1 : Int) = (g2 : Int)) := fun e => hg (by omega)
                  have hne2 : ((g1 : Int) == (g2 : Int)) = false := by simpa using hne
                  go_region_held3 (fun w' => w'.cell? ⟨X, 0, none⟩ = some (.int .i64 (k : Int)) ∧ w'.cell? ⟨X, 1, none⟩ = some (.int .i64 (g1 : Int)) ∧ w'.cell? ⟨X, 2, none⟩ = some (.bool f1) ∧ w'.cell? ⟨Y, 0, none⟩ = some (.int .i64 (k : Int)) ∧ w'.cell? ⟨Y, 1, none⟩ = some (.int .i64 (g2 : Int)) ∧ w'.cell? ⟨Y, 2, none⟩ = some (.bool f2) ∧ w'.cell? ⟨P, 0, none⟩ = some (.bool D.f) ∧ w'.cell? ⟨P, 1, none⟩ = some (.slice v'.A1 D.s.length v'.c1) ∧ w'.cell? ⟨P, 2, none⟩ = some (.slice v'.A2 D.r.length v'.c2) ∧ w'.cell? ⟨P, 3, none⟩ = some (.slice v'.A3 D.p.length v'.c3) ∧ Below W3.heap.size W3 w')
                    (first | (with_reducible exact HK.out _ hbr) | (with_reducible exact HK.out _ hbd) | (with_reducible exact HK.out _ hbs) | (with_reducible exact HK.out _ hba))
                    (first
                      | (go_at_call 45; (refine (HAC.out _ _ hbs hro).mono ?_); rintro e wa ⟨rfl, hba0⟩; have hba : Below W3.heap.size W3 wa := hbs.trans (hba0.mono hbs.size); clear hba0))
                  have HBW := Lib.hid (HB3.out.trans (hba.mono HB3.out.size))
                  clear hbr hbd hba hbs hro
                  go_split_ands
                  go_wp2_with fail
                  exact ⟨⟨k + 1, by omega, by go_num, HBW.out⟩, by simp [intOf]; omega⟩
              · obtain rfl : k = c.r.length := by omega
                go_wp2_with fail
                refine (awake38 _).mono ?_
                rintro e w11 ⟨rfl, hb11⟩
                have HB11 := Lib.hid (HB9.out.trans (hb11.mono HB9.out.size))
                clear hb11
                go_wp2_with fail
                go_ret
                exact ⟨rfl, HB11.out⟩
          · clear hcs hfit
            go_wp2_with fail
            refine (awake38 _).mono ?_
            rintro e w11 ⟨rfl, hb11⟩
            have HB11 := Lib.hid (HB6.out.trans (hb11.mono HB6.out.size))
            clear hb11
            go_wp2_with fail
            go_ret
            exact ⟨rfl, HB11.out⟩
        · rw [set4row NB.out rfl]
          have HLB := Lib.hid (show Qb + 1 ≤ wr.heap.size from lq)
          obtain ⟨W6, hW6⟩ : ∃ W6, wb.setRow wr.heap.size #[.bool f', .slice B1 n1 d1, .slice B2 n2 d2, .slice B3 n3 d3] = W6 := ⟨_, rfl⟩
          rw [hW6]
          have gW : wr.grownBy W6 (some w.heap.size) := by rw [← hW6]; exact gb_far gb (Nat.le_refl _) _
          have fN : W6.heap[wr.heap.size]? = some (.cells (fc f' B1 n1 d1 B2 n2 d2 B3 n3 d3) 25 (0, 0)) := by rw [← hW6]; exact setRow_heap _ _ _ _ _ _ NB.out
          have FO := Lib.hid (show ∀ v' B0, CL wb B0 (ap c x) v' → wr.heap.size < B0 → CL W6 0 (ap c x) v' from fun v' B0 h2 h1 => by rw [← hW6]; exact (h2.set h1 _).base (Nat.zero_le _))
          have hP : Qb < wr.heap.size := HLB.out
          obtain ⟨P, hPP⟩ : ∃ P, wr.heap.size = P := ⟨_, rfl⟩
          have lNB := row_lt NB.out
          have HLN := Lib.hid lNB
          rw [hPP] at fN hP FO ⊢
          have HPP := Lib.hid hPP
          clear hPP lNB
          have HGW := Lib.hid gW
          have HFN := Lib.hid fN
          have HB6 := Lib.hid (HBK.out.grown gW HBK.out.size (fun g e => by cases e; exact Nat.le_refl _))
          have HR6 := Lib.hid (HR9.out.grown gW (fun g e => by cases e; exact Nat.lt_succ_self _))
          clear gW hW6 gd td ga0 ta0 fN HR9 HC9 Q9 lq
          go_split_ands
          rcases HOUT.out.1 with ⟨hfit, rfl, v', hcs, hcl⟩ | ⟨hfit, rfl, hcs⟩
          · have HCX := Lib.hid (FO.out v' _ hcl (by first | trivial | exact row_lt NA.out | (rw [← HPP.out]; exact row_lt NA.out) | (rw [← HPP.out]; simp)))
            have HOKD := Lib.hid (ok_ap HOK.out XG.out hfit)
            have HRD := Lib.hid (ap_r XG.out)
            have QP := Lib.hid (show W6.heap[P]? = some (.cells (cv (ap c x) v') 25 (0, 0)) by rw [← hcs]; exact HFN.out)
            clear hcs hcl hfit HFN HOUT FO
            generalize ap c x = D at *
            go_wp2_with fail
            go_loopw [100] (fun ii wq => ∃ k : Nat, k ≤ c.r.length ∧ ii = .int .i64 k ∧ Below W6.heap.size W6 wq) (fun ii _ => c.r.length - (intOf ii).toNat)
            case atStart => exact ⟨0, by omega, rfl, Below.refl _ _⟩
            case round =>
              obtain ⟨k, hk, rfl, hbl⟩ := hrel
              have Q9 := Lib.hid ((hbl.block P (row_lt QP.out)).trans QP.out)
              have HC9 := Lib.hid (HCX.out.below hbl)
              have HR9 := Lib.hid (HR6.out.below hbl)
              have HB9 := Lib.hid (HB6.out.trans (hbl.mono HB6.out.size))
              have HBL := Lib.hid hbl
              have lq : P < wr.heap.size := row_lt Q9.out
              clear hbl
              by_cases hlt : k < c.r.length
              · obtain ⟨b, off, hA, -, hlb, e0', e1', e2'⟩ := HR9.out.evid hlt
                rw [ans_at _ _ _ hlt] at e0' e1' e2'
                rw [hA]
                have hkD : k < D.r.length := by rw [HRD.out]; exact hlt
                have HKD := Lib.hid hkD
                have i0 : (0 : Int) ≤ (k : Int) := Int.natCast_nonneg k
                have i1 : (k : Int) < (c.r.length : Int) := Int.ofNat_lt.2 hlt
                have hask := fun w' (h : CL w' 0 D v') => ask_x h HOKD.out HKD.out (by omega)
                have hrig := fun w' A (l : List En) (h : CL w' 0 D v') (hl : Row w' 0 3 A 1 (xl l)) (hr : ∀ j, j < 1 → (l.getD j e0).r < D.r.length) => right_x (cc := 1) h HOKD.out hl hr (by omega) (by omega)
                have q0 : (((an c k).r : Nat) : Int) = (k : Int) := rfl
                have q1 : (((an D k).r : Nat) : Int) = (k : Int) := rfl
                have hR := right_one D (an c k)
                rw [mt_two (show (an c k).r = k from rfl)] at hR
                have q2 : an c k = ⟨k, (an c k).g, (an c k).f⟩ := rfl
                rw [q2] at hR
                clear q2 hkD
                simp only [q0, q1] at e0' hask
                generalize (an c k).g = g1 at *
                generalize (an c k).f = f1 at *
                generalize (an D k).g = g2 at *
                generalize (an D k).f = f2 at *
                have HASK := Lib.hid hask
                have hrl : ∀ j, j < 1 → ((([⟨k, g1, f1⟩] : List En)).getD j e0).r < D.r.length := fun j hj => by obtain rfl : j = 0 := by omega
                                                                                                                 exact HKD.out
                have hri := fun w' A (h : CL w' 0 D v') (hl : Row w' 0 3 A 1 (xl [⟨k, g1, f1⟩])) => hrig w' A [⟨k, g1, f1⟩] h hl hrl
                obtain ⟨rb, hrb⟩ : ∃ rb, (g1 == g2 && f1 == f2) = rb := ⟨_, rfl⟩
                rw [hR, hrb] at hri
                have hcase : (g1 = g2 ∧ f1 = f2 ∧ rb = true) ∨ (g1 = g2 ∧ f1 = true ∧ f2 = false ∧ rb = false) ∨ (g1 = g2 ∧ f1 = false ∧ f2 = true ∧ rb = false) ∨ (g1 ≠ g2 ∧ rb = false) := by
                  rw [← hrb]
                  by_cases hg : g1 = g2
                  · subst hg
                    cases f1 <;> cases f2 <;> simp
                  · simp [hg]
                have HCS := Lib.hid hcase
                clear hcase hrb
                have HRI := Lib.hid hri
                clear hask hrig hR q0 q1 hri hrl
                have hnew := heap_alloc_new wr (.cells #[.int .i64 (k : Int), .int .i64 (g1 : Int), .bool f1] 67)
                have hbx := box_below wr (.cells #[.int .i64 (k : Int), .int .i64 (g1 : Int), .bool f1] 67)
                have QA := Lib.hid ((hbx.block P lq).trans Q9.out)
                have HNEW := Lib.hid hnew
                have HCA := Lib.hid (HC9.out.below hbx)
                have HBXX := Lib.hid hbx
                clear hnew hbx
                obtain ⟨c0, c1, c2, c3⟩ := cvCells _ _ _ _ _ _ QA.out
                go_wp2_with fail
                refine (HASK.out _ HCA.out).mono ?_
                rintro e w2 ⟨rfl, hb2⟩
                have lA : wr.heap.size < (wr.alloc (.cells #[.int .i64 (k : Int), .int .i64 (g1 : Int), .bool f1] 67)).heap.size := row_lt HNEW.out
                have hbx2 := box_below w2 (.cells #[.int .i64 (k : Int), .int .i64 (g2 : Int), .bool f2] 67)
                have hb3 := hb2.trans (hbx2.mono hb2.size)
                have Q3 := Lib.hid ((hb3.block P (row_lt QA.out)).trans QA.out)
                have N3 := Lib.hid ((hb3.block wr.heap.size lA).trans HNEW.out)
                have M3 := Lib.hid (heap_alloc_new w2 (.cells #[.int .i64 (k : Int), .int .i64 (g2 : Int), .bool f2] 67))
                have HC3 := Lib.hid (HCA.out.below hb3)
                have HB3 := Lib.hid (HBL.out.trans ((HBXX.out.trans (hb3.mono HBXX.out.size)).mono HBL.out.size))
                clear hb2 hbx2 hb3 c0 c1 c2 c3 e0' e1' e2' lA
                go_wp2_with fail
                generalize wr.heap.size = X at *
                generalize w2.heap.size = Y at *
                generalize w2.alloc (.cells #[.int .i64 (k : Int), .int .i64 (g2 : Int), .bool f2] 67) = W3 at *
                have hK : ∀ w', Below W3.heap.size W3 w' → (w'.cell? ⟨X, 0, none⟩ = some (.int .i64 (k : Int)) ∧ w'.cell? ⟨X, 1, none⟩ = some (.int .i64 (g1 : Int)) ∧ w'.cell? ⟨X, 2, none⟩ = some (.bool f1) ∧ w'.cell? ⟨Y, 0, none⟩ = some (.int .i64 (k : Int)) ∧ w'.cell? ⟨Y, 1, none⟩ = some (.int .i64 (g2 : Int)) ∧ w'.cell? ⟨Y, 2, none⟩ = some (.bool f2) ∧ w'.cell? ⟨P, 0, none⟩ = some (.bool D.f) ∧ w'.cell? ⟨P, 1, none⟩ = some (.slice v'.A1 D.s.length v'.c1) ∧ w'.cell? ⟨P, 2, none⟩ = some (.slice v'.A2 D.r.length v'.c2) ∧ w'.cell? ⟨P, 3, none⟩ = some (.slice v'.A3 D.p.length v'.c3) ∧ Below W3.heap.size W3 w') := fun w' hb => by
                  obtain ⟨x0, x1, x2, x3⟩ := cvCells _ _ _ _ _ _ ((hb.block P (row_lt Q3.out)).trans Q3.out)
                  have y := (hb.block X (row_lt N3.out)).trans N3.out
                  have z := (hb.block Y (row_lt M3.out)).trans M3.out
                  refine ⟨?_, ?_, ?_, ?_, ?_, ?_, x0, x1, x2, x3, hb⟩
                  all_goals (first | (rw [cell_of_row _ _ _ _ _ _ y]; rfl) | (rw [cell_of_row _ _ _ _ _ _ z]; rfl))
                have HK := Lib.hid hK
                have hac := fun w' A (hb : Below W3.heap.size W3 w') => HRI.out w' A (HC3.out.below hb)
                have HAC := Lib.hid hac
                have hbr : Below W3.heap.size W3 W3 := Below.refl _ _
                have hbd : Below W3.heap.size W3 W3.drew := hbr.drew
                have hbs : Below W3.heap.size W3 (W3.alloc (.cells #[.int .i64 (k : Int), .int .i64 (g1 : Int), .bool f1] 67)).drew := (box_below W3 _).drew
                have hro := (row_one W3 k g1 f1 67).drew
                clear hK hac HASK HNEW HRI
                rcases HCS.out with ⟨hg, hf, hb⟩ | ⟨hg, hf, hf', hb⟩ | ⟨hg, hf, hf', hb⟩ | ⟨hg, hb⟩
                · clear HCS
                  subst hg
                  subst hf
                  subst hb
                  go_region_held3 (fun w' => w'.cell? ⟨X, 0, none⟩ = some (.int .i64 (k : Int)) ∧ w'.cell? ⟨X, 1, none⟩ = some (.int .i64 (g1 : Int)) ∧ w'.cell? ⟨X, 2, none⟩ = some (.bool f1) ∧ w'.cell? ⟨Y, 0, none⟩ = some (.int .i64 (k : Int)) ∧ w'.cell? ⟨Y, 1, none⟩ = some (.int .i64 (g1 : Int)) ∧ w'.cell? ⟨Y, 2, none⟩ = some (.bool f1) ∧ w'.cell? ⟨P, 0, none⟩ = some (.bool D.f) ∧ w'.cell? ⟨P, 1, none⟩ = some (.slice v'.A1 D.s.length v'.c1) ∧ w'.cell? ⟨P, 2, none⟩ = some (.slice v'.A2 D.r.length v'.c2) ∧ w'.cell? ⟨P, 3, none⟩ = some (.slice v'.A3 D.p.length v'.c3) ∧ Below W3.heap.size W3 w')
                    (first | (with_reducible exact HK.out _ hbr) | (with_reducible exact HK.out _ hbd) | (with_reducible exact HK.out _ hbs) | (with_reducible exact HK.out _ hba))
                    (first
                      | (go_at_call 45; (refine (HAC.out _ _ hbs hro).mono ?_); rintro e wa ⟨rfl, hba0⟩; have hba : Below W3.heap.size W3 wa := hbs.trans (hba0.mono hbs.size); clear hba0))
                  have HBW := Lib.hid (HB3.out.trans (hba.mono HB3.out.size))
                  clear hbr hbd hba hbs hro
                  go_split_ands
                  go_wp2_with fail
                  exact ⟨⟨k + 1, by omega, by go_num, HBW.out⟩, by simp [intOf]; omega⟩
                · clear HCS
                  subst hg
                  subst hf
                  subst hf'
                  subst hb
                  go_region_held3 (fun w' => w'.cell? ⟨X, 0, none⟩ = some (.int .i64 (k : Int)) ∧ w'.cell? ⟨X, 1, none⟩ = some (.int .i64 (g1 : Int)) ∧ w'.cell? ⟨X, 2, none⟩ = some (.bool true) ∧ w'.cell? ⟨Y, 0, none⟩ = some (.int .i64 (k : Int)) ∧ w'.cell? ⟨Y, 1, none⟩ = some (.int .i64 (g1 : Int)) ∧ w'.cell? ⟨Y, 2, none⟩ = some (.bool false) ∧ w'.cell? ⟨P, 0, none⟩ = some (.bool D.f) ∧ w'.cell? ⟨P, 1, none⟩ = some (.slice v'.A1 D.s.length v'.c1) ∧ w'.cell? ⟨P, 2, none⟩ = some (.slice v'.A2 D.r.length v'.c2) ∧ w'.cell? ⟨P, 3, none⟩ = some (.slice v'.A3 D.p.length v'.c3) ∧ Below W3.heap.size W3 w')
                    (first | (with_reducible exact HK.out _ hbr) | (with_reducible exact HK.out _ hbd) | (with_reducible exact HK.out _ hbs) | (with_reducible exact HK.out _ hba))
                    (first
                      | (go_at_call 45; (refine (HAC.out _ _ hbs hro).mono ?_); rintro e wa ⟨rfl, hba0⟩; have hba : Below W3.heap.size W3 wa := hbs.trans (hba0.mono hbs.size); clear hba0))
                  have HBW := Lib.hid (HB3.out.trans (hba.mono HB3.out.size))
                  clear hbr hbd hba hbs hro
                  go_split_ands
                  go_wp2_with fail
                  exact ⟨⟨k + 1, by omega, by go_num, HBW.out⟩, by simp [intOf]; omega⟩
                · clear HCS
                  subst hg
                  subst hf
                  subst hf'
                  subst hb
                  go_region_held3 (fun w' => w'.cell? ⟨X, 0, none⟩ = some (.int .i64 (k : Int)) ∧ w'.cell? ⟨X, 1, none⟩ = some (.int .i64 (g1 : Int)) ∧ w'.cell? ⟨X, 2, none⟩ = some (.bool false) ∧ w'.cell? ⟨Y, 0, none⟩ = some (.int .i64 (k : Int)) ∧ w'.cell? ⟨Y, 1, none⟩ = some (.int .i64 (g1 : Int)) ∧ w'.cell? ⟨Y, 2, none⟩ = some (.bool true) ∧ w'.cell? ⟨P, 0, none⟩ = some (.bool D.f) ∧ w'.cell? ⟨P, 1, none⟩ = some (.slice v'.A1 D.s.length v'.c1) ∧ w'.cell? ⟨P, 2, none⟩ = some (.slice v'.A2 D.r.length v'.c2) ∧ w'.cell? ⟨P, 3, none⟩ = some (.slice v'.A3 D.p.length v'.c3) ∧ Below W3.heap.size W3 w')
                    (first | (with_reducible exact HK.out _ hbr) | (with_reducible exact HK.out _ hbd) | (with_reducible exact HK.out _ hbs) | (with_reducible exact HK.out _ hba))
                    (first
                      | (go_at_call 45; (refine (HAC.out _ _ hbs hro).mono ?_); rintro e wa ⟨rfl, hba0⟩; have hba : Below W3.heap.size W3 wa := hbs.trans (hba0.mono hbs.size); clear hba0))
                  have HBW := Lib.hid (HB3.out.trans (hba.mono HB3.out.size))
                  clear hbr hbd hba hbs hro
                  go_split_ands
                  go_wp2_with fail
                  exact ⟨⟨k + 1, by omega, by go_num, HBW.out⟩, by simp [intOf]; omega⟩
                · clear HCS
                  subst hb
                  have hne : ¬ ((g1 : Int) = (g2 : Int)) := fun e => hg (by omega)
                  have hne2 : ((g1 : Int) == (g2 : Int)) = false := by simpa using hne
                  go_region_held3 (fun w' => w'.cell? ⟨X, 0, none⟩ = some (.int .i64 (k : Int)) ∧ w'.cell? ⟨X, 1, none⟩ = some (.int .i64 (g1 : Int)) ∧ w'.cell? ⟨X, 2, none⟩ = some (.bool f1) ∧ w'.cell? ⟨Y, 0, none⟩ = some (.int .i64 (k : Int)) ∧ w'.cell? ⟨Y, 1, none⟩ = some (.int .i64 (g2 : Int)) ∧ w'.cell? ⟨Y, 2, none⟩ = some (.bool f2) ∧ w'.cell? ⟨P, 0, none⟩ = some (.bool D.f) ∧ w'.cell? ⟨P, 1, none⟩ = some (.slice v'.A1 D.s.length v'.c1) ∧ w'.cell? ⟨P, 2, none⟩ = some (.slice v'.A2 D.r.length v'.c2) ∧ w'.cell? ⟨P, 3, none⟩ = some (.slice v'.A3 D.p.length v'.c3) ∧ Below W3.heap.size W3 w')
                    (first | (with_reducible exact HK.out _ hbr) | (with_reducible exact HK.out _ hbd) | (with_reducible exact HK.out _ hbs) | (with_reducible exact HK.out _ hba))
                    (first
                      | (go_at_call 45; (refine (HAC.out _ _ hbs hro).mono ?_); rintro e wa ⟨rfl, hba0⟩; have hba : Below W3.heap.size W3 wa := hbs.trans (hba0.mono hbs.size); clear hba0))
                  have HBW := Lib.hid (HB3.out.trans (hba.mono HB3.out.size))
                  clear hbr hbd hba hbs hro
                  go_split_ands
                  go_wp2_with fail
                  exact ⟨⟨k + 1, by omega, by go_num, HBW.out⟩, by simp [intOf]; omega⟩
              · obtain rfl : k = c.r.length := by omega
                go_wp2_with fail
                refine (awake38 _).mono ?_
                rintro e w11 ⟨rfl, hb11⟩
                have HB11 := Lib.hid (HB9.out.trans (hb11.mono HB9.out.size))
                clear hb11
                go_wp2_with fail
                go_ret
                exact ⟨rfl, HB11.out⟩
          · clear hcs hfit
            go_wp2_with fail
            refine (awake38 _).mono ?_
            rintro e w11 ⟨rfl, hb11⟩
            have HB11 := Lib.hid (HB6.out.trans (hb11.mono HB6.out.size))
            clear hb11
            go_wp2_with fail
            go_ret
            exact ⟨rfl, HB11.out⟩

/-! ### THE ROW's STEP: WRITTEN OUT: LEAVE IT -/
set_option maxRecDepth 100000 in
theorem lifted (os : Os) (started : os.Started) (H : Type) (enc : TypeId × Value → H) :
    ReturnsInHanded {} Try.checked os 12 .any (Rows.probeAnswersSpec.pre6 enc Try.prog Try.f12 Rows.probeAnswersRow.domain false) (Rows.probeAnswersSpec.post enc Try.prog Try.f12 false true false false) := by
  refine returnsInHanded_of_change (C := Try.checked) own started (by kernel_rfl) Try.func12
    (ChangeSpec.witness6 (enc := enc) (C := Try.checked) false ⟨#[], #[.slice none 0 0], []⟩ 8 (by kernel_rfl) (by kernel_rfl) (by kernel_rfl) (by kernel_rfl)) ?_
  intro W base args ds gs before hval0 hW hcnd _
  have hval : ∀ (j : Nat) t v, Try.f12.params[j]? = some t → args[j]? = some v → Value.okWide Try.prog W .any base t v := hval0
  have hW' := hW
  obtain ⟨p, q, hA0, hV, rfl, hfz, hnd⟩ := hW
  have hA : DataW.TrodAll enc Try.prog W 0 (fun _ => true) true Try.f12.params.toList args.toList ds p := hA0
  rw [Try.params12] at hA hval
  obtain ⟨v0, vs0, d0, ds0, p0, q0, hargs, rfl, rfl, h0, r0⟩ := trodAll_cons hA
  obtain ⟨rfl, rfl, rfl⟩ := trodAll_nil r0
  obtain rfl : args = #[v0] := by cases args; simp_all
  obtain ⟨rfl, rfl⟩ := trodVars_none hV
  obtain ⟨a0, len0, cap0, rfl⟩ := okWide_slice Try.underlying22 (hval 0 22 v0 rfl rfl)
  have k0 := h0
  have lt0 : ∀ x ∈ p0, x.block < W.heap.size := by obtain ⟨m, hm⟩ := k0; exact DataW.trod_lt m _ _ _ hm
  obtain ⟨z0, w0⟩ : ∃ zs, IsRow .i64 W a0 len0 cap0 zs := by
    obtain ⟨fuel, hf⟩ := h0
    rcases open_ints Try.underlying22 Try.underlying3 (by kernel_rfl) hf with ⟨hcs, _⟩ | ⟨x, l, c, zs, hcs, _, hl, hm, hz, _, hcell, hwz⟩
    · simp [Value.cells] at hcs
      obtain ⟨rfl, rfl, rfl⟩ := hcs
      exact ⟨[], .inl ⟨rfl, rfl, rfl, rfl⟩⟩
    · simp [Value.cells] at hcs
      obtain ⟨rfl, rfl, rfl⟩ := hcs
      exact ⟨zs, .inr ⟨_, rfl, hl, hm, by simpa using hz, hcell, hwz⟩⟩
  clear hA0 hval0
  refine (walk a0 len0 cap0 z0 W w0).mono fun e W' ⟨he, bel⟩ => ?_
  subst he
  exact ⟨_, rfl, _, _, _, [], _, [], hW', trodAll_mk1 (shut_bool Try.underlying4 _), (trodAll_cons_mk (Below.trod laidOut (by kernel_rfl) (of_decide_eq_true (by kernel_rfl)) k0 bel lt0) trodAll_mk0), rfl, bel.frame _, fun h => by cases h⟩

theorem over : Rows.probeAnswersRow.holds Try.pinned (OpenSpec.ofChange Rows.probeAnswersSpec) :=
  OpenClaim.holds_of_wide 12 Try.f12 rfl rfl rfl rfl rfl rfl rfl ⟨rfl, rfl, rfl, rfl, rfl⟩ rfl rfl rfl rfl rfl (by kernel_rfl) Try.func12 (by kernel_rfl)
    (of_decide_eq_true (by kernel_rfl)) (by unfold Func.isWrapper; first | (rw [if_pos (by decide +kernel)]; kernel_rfl) | (rw [if_neg (by decide +kernel)]; exact ⟨rfl, rfl⟩))
    (fun os started H enc _ => lifted os started H enc)

/-- ████ THE STATEMENT ████ -/
theorem proved : Rows.ProbeAnswersSaid := over
#print axioms proved
end Go.Proofs.Ytamcjhibdcbdnaa.probeAnswers
