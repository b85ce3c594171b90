import Derived.Test.YtablgpcgfogfoaaRgK
namespace Go.Proofs.Ytablgpcgfogfoaa.Rg
open Go.RowKit
open Go.Proofs.Ytablgpcgfogfoaa.Tp
set_option linter.unusedVariables false

set_option maxRecDepth 100000 in
set_option maxHeartbeats 1000000 in
theorem room_any (B : Nat) (nm : ByteArray) (r : Rg) (v : Vr) (i h t : Nat) (w : World) (hg : Gd w B nm r v) (hi : i < r.s.length) :
    Calls Try.prog 23 #[.agg (gv r v), .int .i64 (i : Int), .int .i64 (h : Int), .int .i64 (t : Int)] w fun e w' => e = .returned (.int .i64 ((sl r i : Int) - (hc r i h t : Int))) ∧ Below w.heap.size w w' := by
  have HB0 := Lib.hid (box_below w (.cells (gv r v) 26))
  have R0 := Lib.hid (heap_alloc_new w (.cells (gv r v) 26))
  have HCK := Lib.hid (fun w' (hw : Below w.heap.size w w') => check_ok (hg.below hw))
  have n2 := hg.f.n2
  have n1 := hg.f.n1
  have hs2 := (hg.f.s i hi).2
  have hcl2 : hc r i h t ≤ 24 := Nat.le_trans (cnt_le _ _) n2
  have HHD := Lib.hid (fun w' (hw : Below w.heap.size w w') => held_any B nm r v i h t w' (hg.l.below hw) (by omega))
  obtain ⟨b, off, hA, -, lb, z0, z1⟩ := hg.l.r1.iss hi
  have hK : r.s.getD i 0 = sl r i := rfl
  rw [hK] at z1
  simp only [gv, hA] at HHD
  unfold HdPost at HHD
  have HZ1 := Lib.hid z1
  have HAA := Lib.hid hA
  clear hg z0 z1 hK
  obtain ⟨g0, g1⟩ := gvCells R0.out
  rw [hA] at g0
  rw [hA] at HCK
  clear hA
  go_enter Try.func23, Try.ntmps23
  go_wp2_with fail
  refine (HCK.out _ HB0.out).mono ?_
  rintro e w1 ⟨rfl, hb1⟩
  have R1 := Lib.hid ((hb1.block _ (row_lt R0.out)).trans R0.out)
  have HB1 := Lib.hid (HB0.out.trans (hb1.mono HB0.out.size))
  clear hb1 g0 g1
  obtain ⟨g0, g1⟩ := gvCells R1.out
  rw [HAA.out] at g0
  have hk : ∀ w', Below w1.heap.size w1 w' → (w'.cell? ⟨w.heap.size, 0, none⟩ = some (.slice (some ⟨b, off, none⟩) r.s.length v.c1) ∧ w'.cell? ⟨w.heap.size, 1, none⟩ = some (.slice v.A2 r.c.length v.c2) ∧ w'.cell? ⟨b, off + i * 2 + 1, none⟩ = some (.int .i64 ((sl r i : Nat) : Int)) ∧ Below w.heap.size w w' ∧ Below w1.heap.size w1 w') := fun w' hw => by
    have hbw := HB1.out.trans (hw.mono HB1.out.size)
    obtain ⟨k0, k1⟩ := gvCells ((hw.block _ (row_lt R1.out)).trans R1.out)
    rw [HAA.out] at k0
    exact ⟨k0, k1, (hbw.cell (p := ⟨b, off + i * 2 + 1, none⟩) lb).trans HZ1.out, hbw, hw⟩
  have HK := Lib.hid hk
  clear hk
  have i0 : (0 : Int) ≤ (i : Int) := by omega
  have i1 : (i : Int) < (r.s.length : Int) := by omega
  have q0 : decide ((i : Int) < 0) = false := decide_eq_false (by omega)
  have q1 : decide ((r.s.length : Int) ≤ (i : Int)) = false := decide_eq_false (by omega)
  generalize hsl : sl r i = s at *
  generalize hhc : hc r i h t = n at *
  have HSL := Lib.hid hsl
  have HHC := Lib.hid hhc
  clear hsl hhc
  have hwr : IntKind.i64.wrap ((s : Int) - (n : Int)) = (s : Int) - (n : Int) := IntWalk.i64_in _ (by omega)
  have hbr : Below w1.heap.size w1 w1 := Below.refl _ _
  have hbd : Below w1.heap.size w1 w1.drew := hbr.drew
  go_wp2_with (go_at_call 43; (with_reducible refine (num_yes i r.s.length _ hi (by omega)).mono ?_); rintro e w2 ⟨rfl, rfl⟩)
  go_region_held3 (fun w' => w'.cell? ⟨w.heap.size, 0, none⟩ = some (.slice (some ⟨b, off, none⟩) r.s.length v.c1) ∧ w'.cell? ⟨w.heap.size, 1, none⟩ = some (.slice v.A2 r.c.length v.c2) ∧ w'.cell? ⟨b, off + i * 2 + 1, none⟩ = some (.int .i64 ((s : Nat) : Int)) ∧ Below w.heap.size w w' ∧ Below w1.heap.size w1 w')
    (first | (with_reducible assumption) | (with_reducible exact HK.out _ hbr) | (with_reducible exact HK.out _ hbd) | (go_split_ands; exact HK.out _ (Below.trans (by with_reducible assumption) (hb2.mono (Below.size (by with_reducible assumption))))))
    (first
      | (go_at_call 41; (with_reducible refine (HHD.out _ ?_).mono ?_); (go_split_ands; with_reducible assumption); rintro e w2 ⟨A, cc, rfl, hrow, hb2⟩; clear hrow))
  go_wp2_with fail
  go_ret
  go_split_ands
  exact ⟨by rw [HSL.out, HHC.out]; first | rfl | simp, by assumption⟩

def RvPost (nm : ByteArray) (r : Rg) (k t : Nat) (w : World) (e : Ending) (w' : World) : Prop := ∃ v', e = .returned (.tuple #[.agg (gv (rev r k t) v'), .int .i64 0]) ∧ RL w' w.heap.size nm (rev r k t) v' ∧ Below w.heap.size w w'

theorem rev_row {W : World} {B g : Nat} {nm : ByteArray} {r : Rg} {u : Vr} {k t : Nat} (h : Own W B nm r u) (hA : u.A2 = some ⟨g, 0, none⟩) (hk : k < r.c.length) :
    RL (W.setCell ⟨g, k * 5 + 4, none⟩ (.int .i64 ((min t (cg r k).u : Nat) : Int))) B nm (rev r k t) u ∧ W.grownBy (W.setCell ⟨g, k * 5 + 4, none⟩ (.int .i64 ((min t (cg r k).u : Nat) : Int))) (some g) := by
  obtain ⟨c, hh⟩ : ∃ c : Array Value, W.heap[g]? = some (.cells c 29 (0, 0)) ∧ c.toList.take (r.c.length * 5) = kv r.c := by
    rcases h.o2.2 with ⟨hv, _⟩ | ⟨g', cap, cur, hv, _, hh, _, _, _, ht⟩
    · rw [hA] at hv; cases hv
    · rw [hA] at hv
      cases hv
      exact ⟨cur, hh, ht⟩
  have hne : ∀ g', (Value.slice u.A1 r.s.length u.c1).ownBlock = some g' → g' ≠ g := fun g' h1 e => by
    subst e
    exact own_ne h.o1 h.o2 (by decide) g' h1 (by rw [hA]; rfl)
  rw [setCell_eq_setRow _ _ _ _ _ _ _ hh.1]
  have hg := gb_setRow W g (c.setIfInBounds (k * 5 + 4) (.int .i64 ((min t (cg r k).u : Nat) : Int)))
  refine ⟨⟨row_of_own (kept_ne h.o1 hg (fun g' e1 e2 => by cases e1; exact hne g e2 rfl)), ?_⟩, hg⟩
  have hl : (rev r k t).c.length = r.c.length := rev_len r k t
  refine ⟨by rw [kv_len], fun h0 => ⟨g, 0, hA, ?_, ?_, fun j y hj => ?_⟩⟩
  · exact (h.o2.lt g (by rw [hA]; rfl)).1
  · rw [setRow_size]; exact row_lt hh.1
  · have hkv : kv (rev r k t).c = (kv r.c).set (k * 5 + 4) (.int .i64 ((min t (cg r k).u : Nat) : Int)) := kv_set r.c k _ hk
    rw [hkv] at hj
    rw [Nat.zero_add, cell_of_row _ _ _ _ _ _ (setRow_heap _ _ _ _ _ _ hh.1)]
    have hjl : j < r.c.length * 5 := by
      have := (List.getElem?_eq_some_iff.1 hj).1
      rw [List.length_set, kv_len] at this
      exact this
    rw [← hh.2, List.getElem?_set] at hj
    rw [Array.getElem?_setIfInBounds]
    by_cases e : k * 5 + 4 = j
    · rw [if_pos e] at hj ⊢
      have hlen : k * 5 + 4 < c.toList.length := by
        have := congrArg List.length hh.2
        rw [List.length_take, kv_len] at this
        omega
      rw [if_pos (by simpa using hlen)]
      split at hj
      · exact hj
      · cases hj
    · rw [if_neg e] at hj ⊢
      rw [List.getElem?_take_of_lt hjl] at hj
      simpa using hj

end Go.Proofs.Ytablgpcgfogfoaa.Rg
