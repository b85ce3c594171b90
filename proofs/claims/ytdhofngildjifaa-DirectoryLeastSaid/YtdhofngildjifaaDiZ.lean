import Derived.Test.YtdhofngildjifaaDiY
namespace Go.Proofs.Ytdhofngildjifaa.Di
open Go.RowKit
open Go.Proofs.Ytdhofngildjifaa.Tp
set_option linter.unusedVariables false

/-- The groups in which p is. -/
noncomputable def grpB (d : Dy) (t p q : Nat) : Bool := upB d t p q && q != p
theorem idx_filter (p q : Nat → Bool) : ∀ n, (idx p n).filter (fun x => !q x) = idx (fun x => p x && !q x) n
  | 0 => rfl
  | n + 1 => by
    rw [idx, idx]
    cases hp : p n
    · simp [idx_filter p q n]
    · rw [if_pos rfl, List.filter_append, idx_filter p q n]
      cases hq : q n
      · simp [hq]
      · simp [hq]
theorem grp_eq (d : Dy) (t p n : Nat) : (idx (upB d t p) n).filter (fun x => !(x == p)) = idx (grpB d t p) n := by
  rw [idx_filter]
  rfl

/-- A list of those below n for which p holds, as a row somewhere in new memory. -/
def SrPost (p : Nat → Bool) (n : Nat) (w : World) (e : Ending) (w' : World) : Prop := ∃ A cc, e = .returned (.slice A (cnt p n) cc) ∧ Row w' w.heap.size 1 A (cnt p n) (iv (idx p n)) ∧ Below w.heap.size w w'

set_option maxRecDepth 100000 in
set_option maxHeartbeats 1000000 in
theorem grps_any (B : Nat) (d : Dy) (v : Vd) (p t : Nat) (w : World) (h : DL w B d v) (hok : Ok d) :
    Calls Try.prog 20 #[.agg (gd d v), .int .i64 (p : Int), .int .i64 (t : Int)] w (SrPost (grpB d t p) d.k.length w) := by
  have hb := (box_below w (.cells (gd d v) 25)).trans ((box_below (w.alloc (.cells (gd d v) 25)) (.cells #[.int .i64 (p : Int)] 3)).mono (by simp))
  have HB := Lib.hid hb
  have a1 := heap_alloc2_old w (.cells (gd d v) 25) (.cells #[.int .i64 (p : Int)] 3)
  have a2 := heap_alloc2_new w (.cells (gd d v) 25) (.cells #[.int .i64 (p : Int)] 3)
  have A2 := Lib.hid a2
  have hn := hok.n
  have hz : ((w.alloc (.cells (gd d v) 25)).alloc (.cells #[.int .i64 (p : Int)] 3)).heap.size = w.heap.size + 1 + 1 := by simp

  have hup := upw_any B d v p t ((w.alloc (.cells (gd d v) 25)).alloc (.cells #[.int .i64 (p : Int)] 3)) (h.below hb) hok
  simp only [gd] at hup hz
  have HZ := Lib.hid hz
  have HUP := Lib.hid hup
  obtain ⟨g0, g1⟩ := gdCells a1
  have g2 : ((w.alloc (.cells (gd d v) 25)).alloc (.cells #[.int .i64 (p : Int)] 3)).cell? ⟨w.heap.size + 1, 0, none⟩ = some (.int .i64 (p : Int)) := by rw [cell_of_row _ _ _ _ _ _ a2]; rfl
  clear hb a1 a2 h hok hup hz
  go_enter Try.func20, Try.ntmps20
  go_wp2_with fail
  refine HUP.out.mono ?_
  rintro e w1 ⟨A, cc, rfl, hown, hb1⟩
  rw [HZ.out] at hown
  have B1 := Lib.hid (HB.out.trans (hb1.mono HB.out.size))
  have C2 := Lib.hid ((hb1.block _ (row_lt A2.out)).trans A2.out)
  have hle := cnt_le (upB d t p) d.k.length
  have hsz := hb1.size
  rw [HZ.out] at hsz
  have HDF := Lib.hid (delfunc_any (w.heap.size + 1 + 1) (idx (upB d t p) d.k.length) #[.pointer (some ⟨w.heap.size + 1, 0, none⟩)] A (cnt (upB d t p) d.k.length) cc (fun x => x == p) w1 hown hsz (by omega) (fun x w' hw => itself_call x p (w.heap.size + 1) w' (by rw [cell_of_row _ _ _ _ _ _ ((hw.block _ (by omega)).trans C2.out)]; rfl)))
  clear hown hb1 hsz
  go_wp2_with fail
  refine HDF.out.mono ?_
  rintro e w2 ⟨A', c', rfl, hrow, hb2⟩
  rw [grp_eq, idx_len] at *
  have HR := Lib.hid (hrow.base (show w.heap.size ≤ w.heap.size + 1 + 1 by omega))
  have B2 := Lib.hid (B1.out.trans (hb2.mono (show w.heap.size ≤ w.heap.size + 1 + 1 by omega)))
  clear hrow hb2
  go_wp2_with fail
  go_ret
  exact ⟨A', c', by first | rfl | simp, HR.out, B2.out⟩

end Go.Proofs.Ytdhofngildjifaa.Di
