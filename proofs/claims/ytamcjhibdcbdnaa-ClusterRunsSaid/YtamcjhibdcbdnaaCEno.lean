import Derived.Test.YtamcjhibdcbdnaaCMis
namespace Go.Proofs.Ytamcjhibdcbdnaa.Cl
open Go.RowKit
open Go.Proofs.Ytamcjhibdcbdnaa.Tp
set_option linter.unusedVariables false

def sS (c : Cl) : Nat := if sn c.s c.s.length = c.s.length then 0 else sn c.s c.s.length
def sO (c : Cl) : Bool := !(sn c.s c.s.length == c.s.length)
theorem since_two (m B : Nat) (c : Cl) (v : Vl) (w : World) (h : CL w B c v) (hok : Ok m c) (hm : m ≤ 100) :
    Calls Try.prog 43 #[.agg (cv c v), .int .i64 1] w fun e w' => e = .returned (.tuple #[.int .i64 ((sS c : Nat) : Int), .bool (sO c)]) ∧ Below w.heap.size w w' :=
  (since_any m B c v w h hok hm).mono fun e w' ⟨he, hb⟩ => by
    refine ⟨?_, hb⟩
    rw [he]
    unfold sS sO
    split <;> rfl

/-- Is replica i missing in the evidence l? -/
def fnd (c : Cl) (l : List En) (i : Nat) : Bool := anyB (fun j => eno i (sS c) c.s.length (sO c) (l.getD j e0)) l.length
def ms (c : Cl) (l : List En) : Nat → List Nat
  | 0 => []
  | i + 1 => if fnd c l i then ms c l i else ms c l i ++ [i]
theorem ms_le (c : Cl) (l : List En) : ∀ n, (ms c l n).length ≤ n
  | 0 => Nat.le_refl _
  | n + 1 => by
    have := ms_le c l n
    rw [ms]
    split
    · omega
    · simp; omega

def MsPost (c : Cl) (l : List En) (w : World) (e : Ending) (w' : World) : Prop := ∃ A cc, e = .returned (.slice A (ms c l c.r.length).length cc) ∧ Row w' w.heap.size 1 A (ms c l c.r.length).length (iv (ms c l c.r.length)) ∧ Below w.heap.size w w'

theorem one_cell {w : World} {g : Nat} {x : Value} {t : TypeId} (h : w.heap[g]? = some (.cells #[x] t (0, 0))) : w.cell? ⟨g, 0, none⟩ = some x := by rw [cell_of_row _ _ _ _ _ _ h]; rfl

theorem eno_in {c : Cl} {v : Vl} {l : List En} {n cc : Nat} {A : Option Addr} (w : World) (G gi gw i : Nat) (hn : n ≤ 1000) (hl : Row w 0 3 A n (xl l)) (hc : w.heap[gw]? = some (.cells (cv c v) 25 (0, 0))) (hs : w.heap[G]? = some (.cells #[.int .i64 ((sS c : Nat) : Int)] 3 (0, 0))) (ho : w.heap[G + 1]? = some (.cells #[.bool (sO c)] 4 (0, 0))) (hi : w.heap[gi]? = some (.cells #[.int .i64 (i : Int)] 3 (0, 0))) :
    Calls Try.prog 77 #[.slice A n cc, .func (.func 78) #[] #[.pointer (some ⟨G + 1, 0, none⟩), .pointer (some ⟨gi, 0, none⟩), .pointer (some ⟨G, 0, none⟩), .pointer (some ⟨gw, 0, none⟩)]] w fun e w' => e = .returned (.bool (anyB (fun j => eno i (sS c) c.s.length (sO c) (l.getD j e0)) n)) ∧ Below w.heap.size w w' := by
  refine eno_any l (G + 1) gi G gw A n cc (fun j => eno i (sS c) c.s.length (sO c) (l.getD j e0)) w hn hl (fun j hj w3 hb3 => ?_)
  refine eno_call i (sS c) c.s.length v.c1 (G + 1) gi G gw (sO c) v.A1 (l.getD j e0) w3 ?_ ?_ ?_ ?_ (Nat.lt_of_lt_of_le (row_lt ho) hb3.size) (Nat.lt_of_lt_of_le (row_lt hi) hb3.size) (Nat.lt_of_lt_of_le (row_lt hs) hb3.size) (Nat.lt_of_lt_of_le (row_lt hc) hb3.size)
  · exact one_cell ((hb3.block (G + 1) (row_lt ho)).trans ho)
  · exact one_cell ((hb3.block gi (row_lt hi)).trans hi)
  · exact one_cell ((hb3.block G (row_lt hs)).trans hs)
  · exact (cvCells _ _ _ _ _ _ ((hb3.block gw (row_lt hc)).trans hc)).2.1

/-- The loop of Missing. -/
structure MsRel (w : World) (c : Cl) (v : Vl) (l : List En) (G k : Nat) (ov : Value) (wr : World) : Prop where
  own : wr.ownsRow (G + 2) 3 1 ov (ms c l k).length (iv (ms c l k))
  bl : Below w.heap.size w wr
  row : wr.heap[w.heap.size]? = some (.cells (cv c v) 25 (0, 0))
  s : wr.heap[G]? = some (.cells #[.int .i64 ((sS c : Nat) : Int)] 3 (0, 0))
  o : wr.heap[G + 1]? = some (.cells #[.bool (sO c)] 4 (0, 0))

theorem MsRel_iff (w : World) (c : Cl) (v : Vl) (l : List En) (G k : Nat) (ov : Value) (wr : World) : MsRel w c v l G k ov wr ↔ (wr.ownsRow (G + 2) 3 1 ov (ms c l k).length (iv (ms c l k)) ∧ Below w.heap.size w wr ∧ wr.heap[w.heap.size]? = some (.cells (cv c v) 25 (0, 0)) ∧ wr.heap[G]? = some (.cells #[.int .i64 ((sS c : Nat) : Int)] 3 (0, 0)) ∧ wr.heap[G + 1]? = some (.cells #[.bool (sO c)] 4 (0, 0))) :=
  ⟨fun h => ⟨h.own, h.bl, h.row, h.s, h.o⟩, fun h => ⟨h.1, h.2.1, h.2.2.1, h.2.2.2.1, h.2.2.2.2⟩⟩

set_option maxRecDepth 100000 in
set_option maxHeartbeats 1000000 in
theorem missing_any (m B B2 n cc : Nat) (A : Option Addr) (c : Cl) (v : Vl) (l : List En) (w : World) (h : CL w B c v) (hok : Ok m c) (hm : m ≤ 100) (hl : Row w B2 3 A n (xl l)) (hn : n ≤ 1000) :
    Calls Try.prog 50 #[.agg (cv c v), .slice A n cc] w (MsPost c l w) := by
  have hln : l.length = n := by have := hl.len; rw [xl_len] at this; omega
  have HB0 := Lib.hid (box_below w (.cells (cv c v) 25))
  have HR0 := Lib.hid (heap_alloc_new w (.cells (cv c v) 25))
  have r2 := hok.r2
  have hch : ∀ w', Below w.heap.size w w' → Calls Try.prog 21 #[.agg #[.bool c.f, .slice v.A1 c.s.length v.c1, .slice v.A2 c.r.length v.c2, .slice v.A3 c.p.length v.c3]] w' fun e w'' => e = .returned (.int .i64 0) ∧ Below w'.heap.size w' w'' := fun w' hw => check_any m B c v w' (h.below hw) hok hm
  have hsi : ∀ w', Below w.heap.size w w' → Calls Try.prog 43 #[.agg #[.bool c.f, .slice v.A1 c.s.length v.c1, .slice v.A2 c.r.length v.c2, .slice v.A3 c.p.length v.c3], .int .i64 1] w' fun e w'' => e = .returned (.tuple #[.int .i64 ((sS c : Nat) : Int), .bool (sO c)]) ∧ Below w'.heap.size w' w'' := fun w' hw => since_two m B c v w' (h.below hw) hok hm
  have HCH := Lib.hid hch
  have HSI := Lib.hid hsi
  have HL := Lib.hid (hl.base (Nat.zero_le _))
  have HLN := Lib.hid hln
  have hrow : (w.alloc (.cells (cv c v) 25)).heap[w.heap.size]? = some (.cells (cv c v) 25 (0, 0)) := HR0.out
  clear h hch hsi hok hl hln
  obtain ⟨c0, c1, c2, c3⟩ := cvCells _ _ _ _ _ _ hrow
  clear hrow
  obtain ⟨i0, hi1, hz0, hz1, hz2⟩ := info_parts zinfo3
  have HI := Lib.hid hi1
  have HI0 := Lib.hid hz0
  have HI1 := Lib.hid hz1
  have HI2 := Lib.hid hz2
  clear hi1 hz0 hz1 hz2
  go_enter Try.func50, Try.ntmps50
  go_wp2_with fail
  refine (HCH.out _ HB0.out).mono ?_
  rintro e w1 ⟨rfl, hb1⟩
  have R1 := Lib.hid ((hb1.block w.heap.size (row_lt HR0.out)).trans HR0.out)
  have HB1 := Lib.hid (HB0.out.trans (hb1.mono HB0.out.size))
  clear hb1 c0 c1 c2 c3
  obtain ⟨c0, c1, c2, c3⟩ := cvCells _ _ _ _ _ _ R1.out
  go_wp2_with fail
  refine (HSI.out _ HB1.out).mono ?_
  rintro e w2 ⟨rfl, hb2⟩
  have R2 := Lib.hid ((hb2.block w.heap.size (row_lt R1.out)).trans R1.out)
  have HB2 := Lib.hid (HB1.out.trans (hb2.mono HB1.out.size))
  clear hb2 c0 c1 c2 c3
  have lw2 : w.heap.size < w2.heap.size := row_lt R2.out
  have n1 := Lib.hid (heap_alloc2_old w2 (.cells #[.int .i64 ((sS c : Nat) : Int)] 3) (.cells #[.bool (sO c)] 4))
  have n2 := Lib.hid (heap_alloc2_new w2 (.cells #[.int .i64 ((sS c : Nat) : Int)] 3) (.cells #[.bool (sO c)] 4))
  have HB3 := Lib.hid ((HB2.out.trans ((box_below w2 (.cells #[.int .i64 ((sS c : Nat) : Int)] 3)).mono HB2.out.size)).trans ((box_below (w2.alloc (.cells #[.int .i64 ((sS c : Nat) : Int)] 3)) (.cells #[.bool (sO c)] 4)).mono (by have := HB2.out.size; simp; omega)))
  have R3 := Lib.hid ((heap_alloc_old (w2.alloc (.cells #[.int .i64 ((sS c : Nat) : Int)] 3)) (.cells #[.bool (sO c)] 4) (by simp; omega)).trans ((heap_alloc_old w2 (.cells #[.int .i64 ((sS c : Nat) : Int)] 3) lw2).trans R2.out))
  obtain ⟨c0, c1, c2, c3⟩ := cvCells _ _ _ _ _ _ R2.out
  go_wp2_with fail
  clear c0 c1 c2 c3
  go_loopw [7, 21] (fun ov ii wr => ∃ k : Nat, k ≤ c.r.length ∧ ii = .int .i64 k ∧ MsRel w c v l w2.heap.size k ov wr) (fun _ ii _ => c.r.length - (intOf ii).toNat)
  case atStart => exact ⟨0, by omega, rfl, own_nil _ _ _ _, HB3.out, R3.out, n1.out, n2.out⟩
  case round =>
    obtain ⟨k, hk, rfl, hown, hbl, hrow, hs, ho⟩ := hrel
    have hlk := ms_le c l k
    have HOWN := Lib.hid hown
    have HBL := Lib.hid hbl
    have HROW := Lib.hid hrow
    have HS := Lib.hid hs
    have HO := Lib.hid ho
    have lw : w.heap.size < wr.heap.size := row_lt hrow
    have lo : w2.heap.size + 1 < wr.heap.size := row_lt ho
    clear hown hbl hrow hs ho
    by_cases hlt : k < c.r.length
    · have hx := eno_in (cc := cc) (wr.alloc (.cells #[.int .i64 (k : Int)] 3)) w2.heap.size wr.heap.size w.heap.size k hn (HL.out.below (HBL.out.trans ((box_below wr _).mono HBL.out.size))) ((heap_alloc_old _ _ lw).trans HROW.out) ((heap_alloc_old _ _ (by omega)).trans HS.out) ((heap_alloc_old _ _ lo).trans HO.out) (heap_alloc_new _ _)
      have HNN := Lib.hid hn
      have hfd : anyB (fun j => eno k (sS c) c.s.length (sO c) (l.getD j e0)) n = fnd c l k := by
        unfold fnd
        rw [HLN.out]
      rw [hfd] at hx
      have HX := Lib.hid hx
      clear hx hfd
      have hsz : (wr.alloc (.cells #[.int .i64 (k : Int)] 3)).heap.size = wr.heap.size + 1 := by simp
      cases hf : fnd c l k with
      | true =>
        have HSTEP := Lib.hid (show ms c l (k + 1) = ms c l k by rw [ms, if_pos hf])
        rw [hf] at HX
        clear hf
        go_wp2_with fail
        refine HX.out.mono ?_
        rintro e w6 ⟨rfl, hb6⟩
        have HB6 := Lib.hid hb6
        clear hb6
        go_wp2_with fail
        refine ⟨⟨k + 1, by omega, by go_num, ?_⟩, by simp [intOf]; omega⟩
        rw [MsRel_iff, HSTEP.out]
        exact ⟨own_below (HOWN.out.alloc _) HB6.out, HBL.out.trans (((box_below wr _).trans (HB6.out.mono (by simp))).mono HBL.out.size), (HB6.out.block _ (by omega)).trans ((heap_alloc_old _ _ lw).trans HROW.out), (HB6.out.block _ (by omega)).trans ((heap_alloc_old _ _ (by omega)).trans HS.out), (HB6.out.block _ (by omega)).trans ((heap_alloc_old _ _ lo).trans HO.out)⟩
      | false =>
        have HSTEP := Lib.hid (show ms c l (k + 1) = ms c l k ++ [k] by rw [ms, if_neg (by rw [hf]; decide)])
        rw [hf] at HX
        clear hf
        go_wp2_with fail
        refine HX.out.mono ?_
        rintro e w6 ⟨rfl, hb6⟩
        have HB6 := Lib.hid hb6
        have hi6 := one_cell ((hb6.block wr.heap.size (by omega)).trans (heap_alloc_new wr (.cells #[.int .i64 (k : Int)] 3)))
        have hl6 := hb6.size
        have HO6 := Lib.hid (own_below (HOWN.out.alloc (.cells #[.int .i64 (k : Int)] 3)) hb6)
        have HBB6 := Lib.hid (HBL.out.trans (((box_below wr (.cells #[.int .i64 (k : Int)] 3)).trans (hb6.mono (by simp))).mono HBL.out.size))
        have T1 := Lib.hid ((hb6.block w.heap.size (by omega)).trans ((heap_alloc_old _ _ lw).trans HROW.out))
        have T2 := Lib.hid ((hb6.block w2.heap.size (by omega)).trans ((heap_alloc_old _ _ (by omega)).trans HS.out))
        have T3 := Lib.hid ((hb6.block (w2.heap.size + 1) (by omega)).trans ((heap_alloc_old _ _ lo).trans HO.out))
        clear hb6
        go_wp2_with (at_builtin; refine wpList_append_own _ rfl (.tmp 29) (.tmp 31) 22 rfl (w2.heap.size + 2) 3 i0 (.int .i64 0) 1 8 Try.underlying22 HI.out HI0.out HI1.out HI2.out rfl (by decide) _ (ms c l k).length (iv (ms c l k)) rfl (HO6.out.alloc _) ⟨w6.heap.size, 0, none⟩ 1 1 [.int .i64 (k : Int)] rfl rfl ?_ (by simp [Value.oneCell']) (by unfold maxLen; omega) (by omega) (by simp; omega) ?_; (go_loud (first | exact cell_one_new _ _ _)); intro v' w7 hown hgr _; have HOWN7 := Lib.hid hown; have HGR := Lib.hid hgr; clear hown hgr)
        refine ⟨⟨k + 1, by omega, by go_num, ?_⟩, by simp [intOf]; omega⟩
        rw [MsRel_iff, HSTEP.out]
        refine ⟨?_, far_below HBB6.out HO6.out HGR.out (by omega), (far_block HO6.out HGR.out _ (by omega) (by omega)).trans T1.out, (far_block HO6.out HGR.out _ (by omega) (by omega)).trans T2.out, (far_block HO6.out HGR.out _ (by omega) (by omega)).trans T3.out⟩
        rw [iv_snoc, List.length_append]
        exact HOWN7.out
    · obtain rfl : k = c.r.length := by omega
      obtain ⟨A', cc', rfl⟩ := own_form HOWN.out
      go_wp2_with fail
      go_ret
      exact ⟨A', cc', rfl, (row_of_own HOWN.out).base (by omega), HBL.out⟩

end Go.Proofs.Ytamcjhibdcbdnaa.Cl
