import Derived.Test.YtidpkkekoldkgaaEntRef
import Derived.Test.YtidpkkekoldkgaaEntTab
import Derived.Laws.Rows
import Derived.Laws.CopyOwn
namespace Go.Proofs.Ytidpkkekoldkgaa.Ent
open Go.RowKit

theorem zero33 (w : World) : (zeroValue 33).run Try.prog w = .ok (.agg (tab [])) w := by kernel_rfl
theorem size33 : (Try.prog.info? 33).map (·.size) = some 256 := by kernel_rfl
theorem info33 (bs : List Nat) : (Try.prog.info? 33).map (·.size) = some (tab bs).size := by rw [size33, tab_size]

/-- The bytes that Counts counts: none where there are too many. -/
def few (bs : List Nat) : List Nat := if bs.length ≤ 65536 then bs else []

theorem take_snoc (bs : List Nat) (k : Nat) (h : k < bs.length) : bs.take (k + 1) = bs.take k ++ [bs.getD k 0] := by
  rw [List.take_succ_eq_append_getElem h, List.getD_eq_getElem?_getD, List.getElem?_eq_getElem h]
  rfl

set_option maxRecDepth 100000 in
set_option maxHeartbeats 400000 in
theorem counts_many (A : Option Addr) (n c : Nat) (bs : List Nat) (w : World) (h : Bytes w A n bs) (hn : 65536 < n) :
    Calls Try.prog 18 #[.slice A n c] w fun e w' => e = .returned (.agg (tab [])) ∧ Below w.heap.size w w' := by
  have hz := zero33
  obtain ⟨_, _, hmax, _⟩ := h
  go_enter Try.func18, Try.ntmps18
  go_wp2_with (first
    | (with_reducible refine wpList_load_row rfl 33 _ rfl (w.heap.size + 1) rfl 33 (tab []) (0, 0) _ (heap_alloc2_new _ _ _) Try.underlying33 rfl (info33 _) ?_)
    | (with_reducible refine wpList_store_row rfl 33 _ _ rfl w.heap.size (tab []) rfl rfl 33 (tab []) (heap_alloc2_old _ _ _) (info33 _) rfl (tab_one _) ?_))
  exact bodyPost_ret (v := .agg (tab [])) (results_cell_row rfl _ _ w.heap.size 33 (tab []) (0, 0) _ rfl (setRow_heap _ _ _ _ _ _ (heap_alloc2_old _ _ _)) Try.underlying33 rfl (info33 _)) rfl
    ⟨rfl, below_setRow (((Below.refl _ _).alloc (Nat.le_refl _) _).alloc (by simp) _) (Nat.le_refl _) _⟩

/-- What a round of Counts knows. -/
def CRel (w : World) (bs : List Nat) (k : Nat) (wr : World) : Prop :=
  wr.heap[w.heap.size + 1]? = some (.cells (tab (bs.take k)) 33 (0, 0)) ∧ wr.heap[w.heap.size]? = some (.cells (tab []) 33 (0, 0)) ∧ Below w.heap.size w wr

theorem CRel.step {w wr : World} {bs : List Nat} {k : Nat} (h : CRel w bs k wr) (hk : k < bs.length) :
    CRel w bs (k + 1) (wr.setCell ⟨w.heap.size + 1, bs.getD k 0, none⟩ (.int .i64 ((cnt (bs.take k) (bs.getD k 0) : Int) + 1))) := by
  obtain ⟨h1, h2, h3⟩ := h
  refine ⟨?_, ?_, h3.setCell (by simp) _⟩
  · rw [heap_setCell_same _ _ _ _ _ _ h1, take_snoc bs k hk, tab_snoc]
  · rw [heap_setCell_other _ _ _ _ (by simp)]
    exact h2

set_option maxRecDepth 100000 in
set_option maxHeartbeats 400000 in
theorem counts_some (A : Option Addr) (n c : Nat) (bs : List Nat) (w : World) (h : Bytes w A n bs) (hn : n ≤ 65536) :
    Calls Try.prog 18 #[.slice A n c] w fun e w' => e = .returned (.agg (tab bs)) ∧ Below w.heap.size w w' := by
  have hz := zero33
  obtain ⟨hlen, hbyte, hmax, hmem⟩ := h
  have HLEN := Lib.hid hlen
  have HB := Lib.hid hbyte
  have HM := Lib.hid hmem
  clear hlen hbyte hmem
  go_enter Try.func18, Try.ntmps18
  go_wp2
  go_loopw [5, 12] (fun _ i wr => ∃ k : Nat, k ≤ n ∧ i = .int .i64 k ∧ CRel w bs k wr) (fun _ i _ => n - (intOf i).toNat)
  case atStart => exact ⟨0, by omega, rfl, heap_alloc2_new _ _ _, heap_alloc2_old _ _ _, ((Below.refl _ _).alloc (Nat.le_refl _) _).alloc (by simp) _⟩
  case round =>
    obtain ⟨k, hk, rfl, hrl⟩ := hrel
    have HR := Lib.hid hrl
    clear hrl
    by_cases hlt : k < n
    · obtain ⟨b, off, rfl, hb, hcell⟩ := HM.out (by omega)
      have hst := HR.out.step (by rw [HLEN.out]; exact hlt)
      have hcn := cnt_le (bs.take k) (bs.getD k 0)
      have htk := List.length_take_le k bs
      have hby : bs.getD k 0 ≤ 255 := by
        have hk2 : k < bs.length := by rw [HLEN.out]; exact hlt
        rw [List.getD_eq_getElem?_getD, List.getElem?_eq_getElem hk2]
        exact HB.out _ (List.getElem_mem hk2)
      have hc1 : wr.cell? ⟨b, off + k, none⟩ = some (.int .u8 (bs.getD k 0 : Nat)) := (HR.out.2.2.cell (p := ⟨b, off + k, none⟩) hb).trans (hcell k hlt)
      have hc2 : wr.cell? ⟨w.heap.size + 1, bs.getD k 0, none⟩ = some (.int .i64 (cnt (bs.take k) (bs.getD k 0) : Nat)) := by
        rw [cell_of_row wr _ _ _ _ _ HR.out.1]
        exact tab_at _ _ (by omega)
      have hfz : wr.frozen? ⟨w.heap.size + 1, bs.getD k 0, none⟩ = false := frozen_of_row wr _ _ _ _ HR.out.1
      have HST := Lib.hid hst
      clear hst hcell
      generalize bs.getD k 0 = z at *
      generalize hC : cnt (bs.take k) z = C at *
      clear hC
      go_wp2
      exact ⟨⟨k + 1, by omega, by go_num, HST.out⟩, by simp [intOf]; omega⟩
    · obtain rfl : k = n := by omega
      have e : bs.take k = bs := List.take_of_length_le (by rw [HLEN.out]; exact Nat.le_refl _)
      have h1 := HR.out.1
      rw [e] at h1
      have h2 := HR.out.2.1
      have h3 := HR.out.2.2
      have hge : k ≤ k := Nat.le_refl _
      clear e HR hlt hk
      have H1 := Lib.hid h1
      have H2 := Lib.hid h2
      clear h1 h2
      go_wp2_with (first
        | (with_reducible refine wpList_load_row rfl 33 _ rfl (w.heap.size + 1) rfl 33 (tab bs) (0, 0) _ H1.out Try.underlying33 rfl (info33 _) ?_)
        | (with_reducible refine wpList_store_row rfl 33 _ _ rfl w.heap.size (tab bs) rfl rfl 33 (tab []) H2.out (info33 _) (by rw [tab_size, tab_size]) (tab_one _) ?_))
      exact bodyPost_ret (v := .agg (tab bs)) (results_cell_row rfl _ _ w.heap.size 33 (tab bs) (0, 0) _ rfl (setRow_heap _ _ _ _ _ _ H2.out) Try.underlying33 rfl (info33 _)) rfl
        ⟨rfl, below_setRow h3 (Nat.le_refl _) _⟩

theorem counts_any (A : Option Addr) (n c : Nat) (bs : List Nat) (w : World) (h : Bytes w A n bs) :
    Calls Try.prog 18 #[.slice A n c] w fun e w' => e = .returned (.agg (tab (few bs))) ∧ Below w.heap.size w w' := by
  have hl := h.1
  by_cases hn : n ≤ 65536
  · have e : few bs = bs := if_pos (by omega)
    rw [e]
    exact counts_some A n c bs w h hn
  · have e : few bs = [] := if_neg (by omega)
    rw [e]
    exact counts_many A n c bs w h (by omega)
end Go.Proofs.Ytidpkkekoldkgaa.Ent
