/-
  The Go function leakresponselaw03.ChecksumHolds returns true for every list of numbers, every text and every two numbers, and leaves what was there as it was; no conditions.
-/
import Derived.Test.YthofhljbipkiaaaDoorCkO
import Derived.Test.YthofhljbipkiaaaDoorCkM
import Derived.Test.YthofhljbipkiaaaDoorRows
import Derived.Test.YthofhljbipkiaaaDoorCards
import Derived.Test.YthofhljbipkiaaaDoorTie
import Derived.SevenTiedAt
import Derived.WalkKit
import Derived.ProofKit
import Derived.OpenShut
import Derived.ShutString
import Derived.ChangeOld
import Derived.Below
import Derived.Deep.RegionHeld3
import Derived.Laws.OwnMore
namespace Go.Proofs.YthofhljbipkiaaaDoor.checksumHolds
open Go.ChangeShapes Go.WideShapes Go.ChangeAt Go.RowKit
open Go.ChangeMaps (open_string shut_string)
open Go.Proofs.YthofhljbipkiaaaDoor.Tp
open Go.Proofs.YthofhljbipkiaaaDoor.Ck
set_option linter.unusedVariables false

theorem low (n : Int) (k : Nat) (hk : 0 < k) : ∃ m : Nat, n % (k : Int) = (m : Int) ∧ m < k :=
  ⟨(n % (k : Int)).toNat, (Int.toNat_of_nonneg (Int.emod_nonneg _ (by omega))).symm, by
    have := Int.emod_lt_of_pos n (show (0 : Int) < (k : Int) by omega)
    have := Int.emod_nonneg n (show (k : Int) ≠ 0 by omega)
    omega⟩

theorem strs_two (w : World) (x y : Value) (t : TypeId) : ∀ j u, [x, y][j]? = some u → (w.alloc (.cells #[x, y] t)).cell? ((⟨w.heap.size, 0, none⟩ : Addr).add j) = some u := by
  intro j u hj
  match j, hj with
  | 0, hj =>
    simp at hj
    subst hj
    simp [Addr.add]
  | 1, hj =>
    simp at hj
    subst hj
    simp [Addr.add]

/-- The row of texts, between two rounds. -/
def ARel (w : World) (T G m : Nat) (v : Value) (wr : World) : Prop :=
  ∃ ss : List ByteArray, 3 ≤ ss.length ∧ ss.length ≤ m ∧ wr.ownsRow G 9 1 v ss.length (ss.map Value.string) ∧ Below w.heap.size w wr ∧ TapeOk wr T ∧ G ≤ wr.heap.size

theorem arel_lit {w w3 : World} {T : Nat} (a1 s s2 : ByteArray) (hb : Below w.heap.size w w3) (ht : TapeOk w3 T) (hG : w.heap.size + 1 ≤ w3.heap.size) :
    ARel w T (w.heap.size + 1) (3 + 2 * 0) (.slice (some ⟨w3.heap.size, 0, none⟩) 3 3) (w3.alloc (.cells #[.string a1, .string s, .string s2] 9)) := by
  refine ⟨[a1, s, s2], Nat.le_refl _, Nat.le_refl _, World.ownsRow_lit w3 #[.string a1, .string s, .string s2] 3 hG (by unfold maxLen; omega) rfl, hb.trans ((box_below w3 _).mono hb.size), ht.kept (World.grownBy_alloc w3 _ none) (by simp), ?_⟩
  have : w3.heap.size ≤ (w3.alloc (.cells #[.string a1, .string s, .string s2] 9)).heap.size := by simp
  omega

theorem arm9 {wr w4 W w5 : World} {T k n cc : Nat} {P : ByteArray} {q : Int} (hT : T < w4.heap.size) (h0 : 0 ≤ q) (h1 : q ≤ 16 - 1) (HB4 : Hid (Below wr.heap.size wr w4)) (HBW : Hid (Below w4.heap.size w4 W))
    (HODD : Hid (∀ w5, W.drew.grownBy w5 (some T) → w5.frozen? ⟨w4.heap.size, k, none⟩ = false ∧ (∃ old : Nat, w5.cell? ⟨w4.heap.size, k, none⟩ = some (.int .u8 (old : Int))) ∧
        ∀ b : Nat, b ≤ 255 → (convert 32 9 (.slice (some ⟨w4.heap.size, 0, none⟩) n cc)).run Tryd.prog (w5.setCell ⟨w4.heap.size, k, none⟩ (.int .u8 (b : Int))) =
          .ok (.string (strB ((nums P).set k b))) (w5.setCell ⟨w4.heap.size, k, none⟩ (.int .u8 (b : Int)))))
    (hg5 : W.drew.grownBy w5 (some T)) (ht5 : TapeOk w5 T) :
    ∃ b old : Nat, (∀ w, (Instr.index 9 (.string { data := #[48, 49, 50, 51, 52, 53, 54, 55, 56, 57, 65, 66, 67, 90, 97, 102] }) (.int .i64 q)).run Tryd.prog w = .ok (.int .u8 (b : Int)) w) ∧
      w5.frozen? ⟨w4.heap.size, k, none⟩ = false ∧ w5.cell? ⟨w4.heap.size, k, none⟩ = some (.int .u8 (old : Int)) ∧
      Hid (∃ O : ByteArray, (convert 32 9 (.slice (some ⟨w4.heap.size, 0, none⟩) n cc)).run Tryd.prog (w5.setCell ⟨w4.heap.size, k, none⟩ (.int .u8 (b : Int))) = .ok (.string O) (w5.setCell ⟨w4.heap.size, k, none⟩ (.int .u8 (b : Int)))) ∧
      Hid (wr.grownBy (w5.setCell ⟨w4.heap.size, k, none⟩ (.int .u8 (b : Int))) (some T)) ∧ Hid (TapeOk (w5.setCell ⟨w4.heap.size, k, none⟩ (.int .u8 (b : Int))) T) := by
  obtain ⟨b, hb, hix⟩ := pick3 q h0 (by omega)
  obtain ⟨hfz, ⟨old, hold⟩, hback⟩ := HODD.out w5 hg5
  exact ⟨b, old, hix, hfz, hold, Lib.hid ⟨_, hback b hb⟩, Lib.hid (far_grown HB4.out HBW.out hg5), Lib.hid (tape_set ht5 hT)⟩

theorem arel_more {w wr w6 w7 : World} {m : Nat} {v v' : Value} {ss : List ByteArray} {P O : ByteArray} {o : Obj} (h3 : 3 ≤ ss.length) (hm : ss.length ≤ m)
    (hrow : wr.ownsRow (w.heap.size + 1) 9 1 v ss.length (ss.map Value.string)) (hb : Below w.heap.size w wr) (hg : wr.grownBy w6 (some w.heap.size)) (ht : TapeOk w6 w.heap.size) (hG : w.heap.size + 1 ≤ wr.heap.size)
    (hown : w7.ownsRow (w.heap.size + 1) 9 1 v' (ss.length + 2) (ss.map Value.string ++ [.string P, .string O])) (hgr : (w6.alloc o).grownBy w7 v.ownBlock) : ARel w w.heap.size (w.heap.size + 1) (m + 2) v' w7 := by
  have hob : ∀ g, v.ownBlock = some g → w.heap.size + 1 ≤ g := fun g e => (hrow.lt g e).1
  have hb6 : Below w.heap.size w w6 := hb.grown hg hb.size (fun k e => by cases e; exact Nat.le_refl _)
  have ha : w6.grownBy (w6.alloc o) none := World.grownBy_alloc w6 _ none
  have hb7 : Below w.heap.size w (w6.alloc o) := hb6.grown ha hb6.size (fun k e => by cases e)
  have hs6 := hg.size
  have hsa := ha.size
  have hs7 := hgr.size
  refine ⟨ss ++ [P, O], by simp; omega, by simp; omega, ?_, hb7.grown hgr hb7.size (fun k e => by have := hob k e; omega), (ht.kept ha (by simp)).kept hgr (fun g e => by have := hob g e; omega), by omega⟩
  simpa using hown

theorem arel_keep {w wr w4 : World} {m : Nat} {v : Value} {ss : List ByteArray} (h3 : 3 ≤ ss.length) (hm : ss.length ≤ m)
    (hrow : wr.ownsRow (w.heap.size + 1) 9 1 v ss.length (ss.map Value.string)) (hb : Below w.heap.size w wr) (ht : TapeOk wr w.heap.size) (hG : w.heap.size + 1 ≤ wr.heap.size) (hb4 : Below wr.heap.size wr w4) : ARel w w.heap.size (w.heap.size + 1) (m + 2) v w4 :=
  ⟨ss, h3, by omega, own_below hrow hb4, hb.trans (hb4.mono hb.size), tape_below ht hb4, Nat.le_trans hG hb4.size⟩

theorem row_out {wr : World} {B : Nat} {v : Value} {ss : List ByteArray} (h : wr.ownsRow B 9 1 v ss.length (ss.map Value.string)) (h3 : 3 ≤ ss.length) :
    ∃ g cap, v = .slice (some ⟨g, 0, none⟩) ss.length cap ∧ g < wr.heap.size ∧ ∀ j, j < ss.length → wr.cell? ⟨g, j, none⟩ = some (.string (ss.getD j ByteArray.empty)) := by
  have h' := h
  rcases h.2 with ⟨_, h0⟩ | ⟨g, cap, cur, rfl, _, hg, _, _, _, htake⟩
  · simp at h0
    subst h0
    simp at h3
  · refine ⟨g, cap, rfl, (h'.lt g rfl).2, fun j hj => ?_⟩
    rw [h'.cellAt j (by omega)]
    simp [hj]

set_option maxRecDepth 100000 in
set_option maxHeartbeats 8000000 in
theorem walk (a0 : Option Addr) (len0 cap0 : Nat) (z0 : List Int) (a1 : ByteArray) (a2 : Int) (a3 : Int) (w : World) (w0 : IsRow .i64 w a0 len0 cap0 z0) (w1 : a1.size ≤ maxLen) (w2 : (Lit.int .i64 a2).wf = true) (w3 : (Lit.int .i64 a3).wf = true) :
    Calls Tryd.prog 3 #[.slice a0 len0 cap0, .string a1, .int .i64 a2, .int .i64 a3] w fun e w' => e = .returned (.bool true) ∧ Below w.heap.size w w' := by
  obtain ⟨i0, hi, hz0, hz1, hz2⟩ := info_parts info9
  have HI := Lib.hid hi
  have HI0 := Lib.hid hz0
  have HI1 := Lib.hid hz1
  have HI2 := Lib.hid hz2
  have HTP := Lib.hid (tape_new w0)
  have HBX := Lib.hid (box_below w (.cells #[.slice a0 len0 cap0, .int .i64 0] 25))
  clear w0 w1 w2 w3 hi hz0 hz1 hz2
  obtain ⟨j, hj, hj1⟩ := low a3 256 (by decide)
  have e2 : bits .and .i64 a3 255 = (j : Int) := (and255 a3).trans hj
  clear hj
  go_enter Tryd.func3, Tryd.ntmps3
  go_wp2_with fail
  refine (next_any w.heap.size 14 _ HTP.out (by omega) (by omega)).mono ?_
  rintro e w1 ⟨x, hx0, hx1, rfl, hg1, ht1⟩
  obtain ⟨n1, rfl⟩ : ∃ m : Nat, x = m := ⟨x.toNat, by omega⟩
  have hs1 := hg1.size
  simp at hs1
  have HB1 := Lib.hid (HBX.out.grown hg1 HBX.out.size (fun k e => by cases e; exact Nat.le_refl _))
  have HT1 := Lib.hid ht1
  clear hg1 ht1
  go_wp2_with fail
  refine (next_any w.heap.size 2 _ HT1.out (by omega) (by omega)).mono ?_
  rintro e w2 ⟨y, hy0, hy1, rfl, hg2, ht2⟩
  have hs2 := hg2.size
  have HB2 := Lib.hid (HB1.out.grown hg2 HB1.out.size (fun k e => by cases e; exact Nat.le_refl _))
  have HT2 := Lib.hid ht2
  clear hg2 ht2
  go_wp2_with fail
  refine (dig_any (y == 1) w.heap.size n1 _ HT2.out (by omega) (by omega)).mono ?_
  rintro e w3 ⟨bs, hl, hd, rfl, hg3, ht3⟩
  have hs3 := hg3.size
  have HB3 := Lib.hid (HB2.out.grown hg3 HB2.out.size (fun k e => by cases e; exact Nat.le_refl _))
  have HT3 := Lib.hid ht3
  have hss : (strB bs).size ≤ 13 := by rw [size_strB]; omega
  have hG : w.heap.size + 1 ≤ w3.heap.size := by omega
  clear hg3 ht3 hl hd HB1 HB2 HT1 HT2 hs1 hs2 hs3
  generalize strB bs = s at *
  have hno : ¬ 9223372036854775807 < s.size + ByteArray.size { data := #[48, 55] } := by
    have : ByteArray.size { data := #[48, 55] } = 2 := rfl
    omega
  have HAT := Lib.hid (arel_lit a1 s (s ++ { data := #[48, 55] }) HB3.out HT3.out hG)
  clear HB3 HT3
  go_wp2_with fail
  generalize w3.alloc (.cells #[.string a1, .string s, .string (s ++ { data := #[48, 55] })] 9) = wS at *
  generalize w3.heap.size = gS at *
  generalize (Value.slice (some ⟨gS, 0, none⟩) 3 3) = vS at *
  go_loopw [11, 12] (fun v i wr => ∃ c : Nat, c ≤ 5 ∧ i = .int .i64 (c : Int) ∧ ARel w w.heap.size (w.heap.size + 1) (3 + 2 * c) v wr) (fun _ i _ => 5 - (intOf i).toNat)
  case atStart => exact ⟨0, by omega, rfl, HAT.out⟩
  case round =>
    obtain ⟨c, hc, rfl, ss, hs3, hsm, hrow, hbel, htape, hgw⟩ := hrel
    have HROW := Lib.hid hrow
    have HBL := Lib.hid hbel
    have HTW := Lib.hid htape
    clear hrow hbel htape
    by_cases hc4 : c ≤ 4
    · obtain ⟨P, E, hv⟩ : ∃ P E, cplV (c : Int) s = .tuple #[.string P, .int .i64 E] := ⟨_, _, rfl⟩
      have HV := Lib.hid hv
      go_wp2_with fail
      refine (refcomplete_any c s _ (by omega)).mono ?_
      rintro e w4 ⟨rfl, hb4⟩
      rw [HV.out]
      have HB4 := Lib.hid hb4
      have hw4 := hb4.size
      have HT4 := Lib.hid (tape_below HTW.out hb4)
      clear hb4 hv
      by_cases hE : E = 0
      · subst hE
        by_cases hP : 0 < P.size
        · have hPd : (0 : Int) < (P.size : Int) := by omega
          obtain ⟨k, hk⟩ : ∃ k, j % P.size = k := ⟨_, rfl⟩
          have hks : k < P.size := by rw [← hk]; exact Nat.mod_lt _ hP
          have hk255 : k ≤ 255 := by rw [← hk]; have := Nat.mod_le j P.size; omega
          have e7 : (j : Int).tmod (P.size : Int) = (k : Int) := by rw [Int.tmod_eq_emod_of_nonneg (by omega), ← hk]; exact (Int.natCast_emod _ _).symm
          have e7b : (j : Int) % (P.size : Int) = (k : Int) := by rw [← hk]; exact (Int.natCast_emod _ _).symm
          have hkw : IntKind.i64.wrap (k : Int) = (k : Int) := IntWalk.i64_in _ (by omega)
          have hP0 : ((P.size : Int) == 0) = false := beq_eq_false_iff_ne.2 (by omega)
          have hki : (k : Int) < (P.size : Int) := by omega
          obtain ⟨W, cc, hcv, htW, hbW, hlW, hodd⟩ := odd_step P w4 w.heap.size k (by omega) HT4.out hks
          have HTW2 := Lib.hid htW
          have HBW := Lib.hid hbW
          have HODD := Lib.hid hodd
          clear htW hbW hodd hk
          obtain ⟨n, hn⟩ : ∃ n, P.size = n := ⟨_, rfl⟩
          rw [hn] at e7 e7b hP0 hki hcv
          have hn0 : ¬ n = 0 := by omega
          have hn0i : ¬ (n : Int) = 0 := by omega
          have hkn : k < n := by omega
          have HODD' := Lib.hid (show ∀ w5, W.drew.grownBy w5 (some w.heap.size) → w5.frozen? ⟨w4.heap.size, k, none⟩ = false ∧ (∃ old : Nat, w5.cell? ⟨w4.heap.size, k, none⟩ = some (.int .u8 (old : Int))) ∧
        ∀ b : Nat, b ≤ 255 → (convert 32 9 (.slice (some ⟨w4.heap.size, 0, none⟩) n cc)).run Tryd.prog (w5.setCell ⟨w4.heap.size, k, none⟩ (.int .u8 (b : Int))) =
          .ok (.string (strB ((nums P).set k b))) (w5.setCell ⟨w4.heap.size, k, none⟩ (.int .u8 (b : Int))) from by rw [← hn]; exact HODD.out)
          clear HODD
          have hT4 : w.heap.size < w4.heap.size := by omega
          go_wp2_with fail
          go_region_held3 (fun _ => True) (trivial) (first
            | (go_at_call 9
               refine (next_any w.heap.size 16 _ HTW2.out (by omega) (by omega)).mono ?_
               rintro e w5 ⟨q, hq0, hq1, rfl, hg5, ht5⟩
               obtain ⟨b, old, hix, hfz, hold, HBK, HG5, HT5⟩ := arm9 hT4 hq0 hq1 HB4 HBW HODD' hg5 ht5
               clear hg5 ht5))
          have hO := HBK.out
          obtain ⟨O, hback⟩ := hO
          have hlen2 : ss.length + 2 ≤ 100 := by omega
          have HR6 := Lib.hid (own_next (Nat.lt_succ_self _) HROW.out HG5.out)
          have hs6 : w.heap.size + 1 ≤ (w5.setCell ⟨w4.heap.size, k, none⟩ (.int .u8 (b : Int))).heap.size := Nat.le_trans hgw HG5.out.size
          clear hfz hold HBK hix HODD'
          generalize w5.setCell ⟨w4.heap.size, k, none⟩ (.int .u8 (b : Int)) = w6 at *
          go_wp2_with (at_builtin; refine wpList_append_own _ rfl (.tmp 62) (.tmp 66) 28 rfl (w.heap.size + 1) 9 i0 (.string ByteArray.empty) 1 16 Tryd.underlying28 HI.out HI0.out HI1.out HI2.out rfl (by decide) _ ss.length (ss.map Value.string) rfl (HR6.out.alloc _) ⟨w6.heap.size, 0, none⟩ 2 2 [.string P, .string O] rfl rfl (strs_two _ _ _ _) (by intro u hu; simp at hu; rcases hu with rfl | rfl <;> rfl) (by unfold maxLen; omega) (by omega) (by simp; omega) ?_; intro v' w7 hown hgr _; have HOWN := Lib.hid hown; have HGR := Lib.hid hgr; clear hown hgr)
          exact ⟨⟨c + 1, by omega, by go_num, by rw [show 3 + 2 * (c + 1) = 3 + 2 * c + 2 by omega]; exact arel_more hs3 hsm HROW.out HBL.out HG5.out HT5.out hgw HOWN.out HGR.out⟩, by simp [intOf]; omega⟩
        · have hPd : ¬ (0 : Int) < (P.size : Int) := by omega
          go_wp2_with fail
          exact ⟨⟨c + 1, by omega, by go_num, by rw [show 3 + 2 * (c + 1) = 3 + 2 * c + 2 by omega]; exact arel_keep hs3 hsm HROW.out HBL.out HTW.out hgw HB4.out⟩, by simp [intOf]; omega⟩
      · have hEb : (E == 0) = false := by simpa using hE
        go_wp2_with fail
        exact ⟨⟨c + 1, by omega, by go_num, by rw [show 3 + 2 * (c + 1) = 3 + 2 * c + 2 by omega]; exact arel_keep hs3 hsm HROW.out HBL.out HTW.out hgw HB4.out⟩, by simp [intOf]; omega⟩
    · obtain rfl : c = 5 := by omega
      obtain ⟨g, cap, hu, hgl, hcells⟩ := row_out HROW.out hs3
      subst hu
      have HC := Lib.hid (show ∀ w', Below wr.heap.size wr w' → ∀ j, j < ss.length → w'.cell? ⟨g, j, none⟩ = some (.string (ss.getD j ByteArray.empty)) from fun w' hw j hj => (hw.cell (p := ⟨g, j, none⟩) hgl).trans (hcells j hj))
      have HFIN := Lib.hid (show ∀ w', Below wr.heap.size wr w' → Below w.heap.size w w' from fun w' hw => HBL.out.trans (hw.mono HBL.out.size))
      have HNX := Lib.hid (show ∀ w' w'', Below wr.heap.size wr w' → Below w'.heap.size w' w'' → Below wr.heap.size wr w'' from fun w' w'' h1 h2 => h1.trans (h2.mono h1.size))
      have HINI := Lib.hid (Below.refl wr.heap.size wr)
      clear hcells HROW HBL HTW hgl
      go_wp2_with fail
      obtain ⟨n, hn⟩ : ∃ n, ss.length = n := ⟨_, rfl⟩
      rw [hn] at HC hs3 hsm ⊢
      clear hn hgw HAT
      generalize wr.heap.size = B at *
      generalize wr = wB at *
      go_loopw [16] (fun i w3 => Below B wB w3 ∧ ∃ k : Nat, k ≤ n ∧ i = .int .i64 (k : Int)) (fun i _ => n - (intOf i).toNat)
      case atStart => exact ⟨HINI.out, 0, by omega, rfl⟩
      case round =>
        obtain ⟨hbr, k, hk, rfl⟩ := hrel
        have HBR := Lib.hid hbr
        clear hbr
        by_cases hlt : k < n
        · have hcell := HC.out _ HBR.out k hlt
          obtain ⟨S, hS⟩ : ∃ S, ss.getD k ByteArray.empty = S := ⟨_, rfl⟩
          have HS := Lib.hid (fun w' h => (HC.out w' h k hlt).trans (congrArg (fun x => some (Value.string x)) hS))
          rw [hS] at hcell
          clear hS
          have hki : (k : Int) < (n : Int) := by omega
          by_cases hbig : 2000 < S.size
          · have hdb : (2000 : Int) < (S.size : Int) := by omega
            go_wp2
            exact ⟨⟨HBR.out, k + 1, by omega, by go_num⟩, by simp [intOf]; omega⟩
          · have hdb : ¬ (2000 : Int) < (S.size : Int) := by omega
            have hS6 : S.size ≤ 100000 := by omega
            have HHN := Lib.hid (show ∀ w' w'', (w'.cell? ⟨g, k, none⟩ = some (.string S) ∧ Below B wB w') → Below w'.heap.size w' w'' → (w''.cell? ⟨g, k, none⟩ = some (.string S) ∧ Below B wB w'') from fun w' w'' h1 h2 => ⟨HS.out _ (HNX.out _ _ h1.2 h2), HNX.out _ _ h1.2 h2⟩)
            go_wp2_with fail
            go_region_held3 (fun w' => w'.cell? ⟨g, k, none⟩ = some (.string S) ∧ Below B wB w') (first | exact ⟨hcell, HBR.out.drew⟩ | assumption) (first
              | (go_at_call 11; refine (luhn_any S _ hS6).mono ?_; rintro e w4 ⟨rfl, rfl⟩)
              | (go_at_call 12; refine (refluhn_any S _ hS6).mono ?_; rintro e w4 ⟨rfl, rfl⟩)
              | (go_at_call 13; refine (mod97_any S _ hS6).mono ?_; rintro e w4 ⟨rfl, rfl⟩)
              | (go_at_call 14; refine (refmod97_any S _ hS6).mono ?_; rintro e w4 ⟨rfl, rfl⟩)
              | (go_at_call 15; refine (crc_any S _ hS6).mono ?_; rintro e w4 ⟨rfl, rfl⟩)
              | (go_at_call 16; refine (refcrc_any S _ hS6).mono ?_; rintro e w4 ⟨rfl, rfl⟩)
              | (go_at_call 17; refine (let_any S _ hS6).mono ?_; rintro e w4 ⟨rfl, rfl⟩)
              | (go_at_call 18; refine (reflet_any S _ hS6).mono ?_; rintro e w4 ⟨rfl, rfl⟩)
              | (go_at_call 19; refine (holds_any a2 S _ hS6).mono ?_; rintro e w4 ⟨rfl, hb4⟩; have hy4 := HHN.out _ _ (by assumption) hb4; clear hb4)
              | (go_at_call 20; refine (refholds_any a2 S _ hS6).mono ?_; rintro e w5 ⟨rfl, hb5⟩; have hy5 := HHN.out _ _ (by assumption) hb5; clear hb5))
            have HB5 := Lib.hid hy5.2
            clear hy5 hy4
            go_wp2_with fail
            go_loopw [17] (fun i w3 => Below B wB w3 ∧ ∃ c : Int, -1 ≤ c ∧ c ≤ 6 ∧ i = .int .i64 c) (fun i _ => (6 - intOf i).toNat)
            case atStart => exact ⟨HB5.out, -1, by omega, by omega, rfl⟩
            case round =>
              obtain ⟨hbc, c, hc1, hc6, rfl⟩ := hrel
              have HBC := Lib.hid hbc
              clear hbc
              have hcell := HS.out _ HBC.out
              by_cases hc5 : c ≤ 5
              · go_wp2_with fail
                go_region_held3 (fun w' => w'.cell? ⟨g, k, none⟩ = some (.string S) ∧ Below B wB w') (first | exact ⟨hcell, HBC.out.drew⟩ | assumption) (first
                  | (go_at_call 19; refine (holds_any c S _ hS6).mono ?_; rintro e w4 ⟨rfl, hb4⟩; have hy4 := HHN.out _ _ (by assumption) hb4; clear hb4)
                  | (go_at_call 20; refine (refholds_any c S _ hS6).mono ?_; rintro e w5 ⟨rfl, hb5⟩; have hy5 := HHN.out _ _ (by assumption) hb5; clear hb5)
                  | (go_at_call 21; refine (valid_any c _).mono ?_; rintro e w6 ⟨rfl, rfl⟩)
                  | (go_at_call 22; refine (refvalid_any c _).mono ?_; rintro e w6 ⟨rfl, rfl⟩))
                all_goals
                  have HB7 := Lib.hid hy5.2
                  go_wp2_with fail
                  exact ⟨⟨HB7.out, c + 1, by omega, by omega, by go_num⟩, by simp [intOf]; omega⟩
              · obtain rfl : c = 6 := by omega
                go_wp2_with fail
                refine ⟨?_, by simp [intOf]; omega⟩
                repeat apply Exists.intro
                refine ⟨?_, rfl⟩
                exact ⟨HBC.out, k + 1, by omega, by go_num⟩
        · obtain rfl : k = n := by omega
          go_wp2_with (go_at_call 23; refine (awake_any _).mono ?_; rintro e w9 ⟨rfl, hb9⟩)
          go_ret
          exact ⟨rfl, HFIN.out _ (HNX.out _ _ HBR.out hb9)⟩

/-! ### THE ROW's STEP: WRITTEN OUT: LEAVE IT -/
set_option maxRecDepth 100000 in
theorem lifted (os : Os) (started : os.Started) (H : Type) (enc : TypeId × Value → H) :
    ReturnsInHanded {} Tryd.checked os 3 .any (fun w args => (Rows.checksumHoldsSpec.pre enc Tryd.prog Tryd.f3 [] false w args ∧ laidMetH Tryd.prog laidL w) ∧ sizedMet enc Tryd.prog Tryd.f3 (OpenSpec.ofChange Rows.checksumHoldsSpec) false w args) (Rows.checksumHoldsSpec.post enc Tryd.prog Tryd.f3 false true false false) := by
  refine returnsInHanded_of_change_and (C := Tryd.checked) (X := fun w _ => laidMetH Tryd.prog laidL w) (fun _ _ _ hh h => h.of_heap hh) own started (by kernel_rfl) Tryd.func3
    (ChangeSpec.witness_shaped (enc := enc) (C := Tryd.checked) (os := os) (X := fun w _ => laidMetH Tryd.prog laidL w) false (World.doorLaid Tryd.prog 400 os) #[.slice none 0 0, .string ByteArray.empty, .int .i64 0, .int .i64 0] 8 rfl (World.shaped_of_RefB (by kernel_rfl) (by kernel_rfl)) (by kernel_rfl) (by kernel_rfl) (by kernel_rfl) (door_met os _)) ?_
  intro W base args ds gs before hval0 hW _ _ hL _
  have hval : ∀ (j : Nat) t v, Tryd.f3.params[j]? = some t → args[j]? = some v → Value.okWide Tryd.prog W .any base t v := hval0
  have hW' := hW
  obtain ⟨p, q, hA0, hV, rfl, hfz, hnd⟩ := hW
  have hA : DataW.TrodAll enc Tryd.prog W 0 (fun _ => true) true Tryd.f3.params.toList args.toList ds p := hA0
  rw [Tryd.params3] at hA hval
  obtain ⟨v0, vs0, d0, ds0, p0, q0, hargs, rfl, rfl, h0, r0⟩ := trodAll_cons hA
  obtain ⟨v1, vs1, d1, ds1, p1, q1, rfl, rfl, rfl, h1, r1⟩ := trodAll_cons r0
  obtain ⟨v2, vs2, d2, ds2, p2, q2, rfl, rfl, rfl, h2, r2⟩ := trodAll_cons r1
  obtain ⟨v3, vs3, d3, ds3, p3, q3, rfl, rfl, rfl, h3, r3⟩ := trodAll_cons r2
  obtain ⟨rfl, rfl, rfl⟩ := trodAll_nil r3
  obtain rfl : args = #[v0, v1, v2, v3] := by cases args; simp_all
  obtain ⟨rfl, rfl⟩ := trodVars_none hV
  obtain ⟨a0, len0, cap0, rfl⟩ := okWide_slice Tryd.underlying22 (hval 0 22 v0 rfl rfl)
  have k0 := h0
  have lt0 : ∀ x ∈ p0, x.block < W.heap.size := by obtain ⟨m, hm⟩ := k0; exact DataW.trod_lt m _ _ _ hm
  obtain ⟨z0, w0⟩ : ∃ zs, IsRow .i64 W a0 len0 cap0 zs := by
    obtain ⟨fuel, hf⟩ := h0
    rcases open_ints Tryd.underlying22 Tryd.underlying3 (by kernel_rfl) hf with ⟨hcs, _⟩ | ⟨x, l, c, zs, hcs, _, hl, hm, hz, _, hcell, hwz⟩
    · simp [Value.cells] at hcs
      obtain ⟨rfl, rfl, rfl⟩ := hcs
      exact ⟨[], .inl ⟨rfl, rfl, rfl, rfl⟩⟩
    · simp [Value.cells] at hcs
      obtain ⟨rfl, rfl, rfl⟩ := hcs
      exact ⟨zs, .inr ⟨_, rfl, hl, hm, by simpa using hz, hcell, hwz⟩⟩
  obtain ⟨a1, rfl, rfl, rfl, w1⟩ := open_string Tryd.underlying9 (hval 1 9 v1 rfl rfl) h1
  obtain ⟨a2, rfl, rfl, rfl, w2⟩ := open_int Tryd.underlying3 (hval 2 3 v2 rfl rfl) h2
  obtain ⟨a3, rfl, rfl, rfl, w3⟩ := open_int Tryd.underlying3 (hval 3 3 v3 rfl rfl) h3
  clear hA0 hval0
  refine (walk a0 len0 cap0 z0 a1 a2 a3 W w0 w1 w2 w3).mono fun e W' ⟨he, bel⟩ => ?_
  subst he
  exact ⟨_, rfl, _, _, _, [], _, [], hW', trodAll_mk1 (shut_bool Tryd.underlying4 _), (trodAll_cons_mk (Below.trod laidOut (by kernel_rfl) (of_decide_eq_true (by kernel_rfl)) k0 bel lt0) (trodAll_cons_mk (shut_string Tryd.underlying9 w1) (trodAll_cons_mk (shut_int Tryd.underlying3 w2) (trodAll_cons_mk (shut_int Tryd.underlying3 w3) trodAll_mk0)))), rfl, bel.frame _, fun h => by cases h⟩

theorem over : Rows.checksumHoldsRow.holds Tryd.pinned (OpenSpec.ofChange Rows.checksumHoldsSpec) :=
  OpenClaim.holds_of_wide 3 Tryd.f3 rfl rfl rfl rfl rfl rfl rfl ⟨rfl, rfl, rfl, rfl, rfl⟩ rfl rfl rfl rfl rfl (by kernel_rfl) Tryd.func3 (by kernel_rfl)
    (of_decide_eq_true (by kernel_rfl)) (by unfold Func.isWrapper; first | (rw [if_pos (by decide +kernel)]; kernel_rfl) | (rw [if_neg (by decide +kernel)]; exact ⟨rfl, rfl⟩))
    (fun os started H enc _ => lifted os started H enc)

/-- ████ THE STATEMENT ████ -/
theorem proved : Rows.ChecksumHoldsSaid := over
#print axioms proved

/-- ████ THE TIED CARD ████ -/
theorem card : Rows.ChecksumHoldsCardSaid :=
  Claim7.holds_tied_plain_at .later [] [.data, .data, .data] true (true, "4935cba83d4df52bd0d5a43570ed45bb14e30fd3ba9468868efeb6f4e4a7b30a") false
    proved (fun _ h => by cases h) (by kernel_rfl) (fun _ h => by cases h) checksumHolds_row_tie rfl ⟨rfl, rfl⟩ (by kernel_rfl) rfl
    (fun f fn hf hfn => by
      obtain rfl : f = 3 := Option.some.inj ((show Tryd.prog.funcNamed "leakresponse/leakresponselaw03.ChecksumHolds" = some 3 by kernel_rfl).symm.trans hf) |>.symm
      obtain rfl : fn = Tryd.f3 := (Option.some.inj (Tryd.func3.symm.trans hfn)).symm
      exact ⟨by kernel_rfl, fun j t ht => by
        rw [Tryd.params3] at ht
        have hm : t ∈ [22, 9, 3, 3] := by simpa using Array.mem_of_getElem? ht
        have hall : ([22, 9, 3, 3].all fun u => !Tryd.prog.wantsStandIn u) = true := by kernel_rfl
        exact (show Tryd.prog.wantsStandIn t = false by simpa using List.all_eq_true.1 hall t hm)⟩)
    (by kernel_rfl)
#print axioms card
end Go.Proofs.YthofhljbipkiaaaDoor.checksumHolds
