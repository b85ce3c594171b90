/- For every tape, every text, every two numbers and every byte, CodingDecodes returns true: what a text decodes to, or the error. No condition. -/
import Derived.Test.YthofhljbipkiaaaCoP
import Derived.Test.YthofhljbipkiaaaCoAA
import Derived.Deep.RegionHeld3
import Derived.Laws.Rows
import Derived.Laws.OwnMore
import Derived.Below
namespace Go.Proofs.Ythofhljbipkiaaa.codingDecodes
open Go.ChangeShapes Go.WideShapes Go.ChangeAt Go.RowKit
open Go.ChangeMaps (open_string shut_string)
open Go.Proofs.Ythofhljbipkiaaa.Tp
open Go.Proofs.Ythofhljbipkiaaa.Co
set_option linter.unusedVariables false

theorem and255n (n : Int) : bits .and .i64 n 255 = n % 256 := by
  have hm : (BitVec.ofInt 64 255).toNat = 2 ^ 8 - 1 := by decide
  have key : (BitVec.ofInt 64 n &&& BitVec.ofInt 64 255).toNat = (n % ((2 ^ 64 : Nat) : Int)).toNat % 2 ^ 8 := by
    rw [BitVec.toNat_and, BitVec.toNat_ofInt, hm, Nat.and_two_pow_sub_one_eq_mod]
  show IntKind.i64.wrap ((BitVec.ofInt 64 n &&& BitVec.ofInt 64 255).toNat : Nat) = n % 256
  rw [key, IntKind.wrap_i64]
  omega

theorem and3k (k : Nat) (hk : k < 5) : bits .and .i64 (k : Int) 3 = ((k % 4 : Nat) : Int) := by
  rcases (by omega : k = 0 ∨ k = 1 ∨ k = 2 ∨ k = 3 ∨ k = 4) with rfl | rfl | rfl | rfl | rfl <;> rfl

theorem pick8 (r : Nat) (h : r < 8) : ∃ b : Nat, b ≤ 255 ∧ ∀ w, (Instr.index 9 (.string { data := #[61, 37, 92, 120, 65, 103, 48, 32] }) (.int .u8 (r : Int))).run Try.prog w = .ok (.int .u8 (b : Int)) w := by
  rcases (by omega : r = 0 ∨ r = 1 ∨ r = 2 ∨ r = 3 ∨ r = 4 ∨ r = 5 ∨ r = 6 ∨ r = 7) with rfl | rfl | rfl | rfl | rfl | rfl | rfl | rfl
  · exact ⟨61, by omega, fun w => by kernel_rfl⟩
  · exact ⟨37, by omega, fun w => by kernel_rfl⟩
  · exact ⟨92, by omega, fun w => by kernel_rfl⟩
  · exact ⟨120, by omega, fun w => by kernel_rfl⟩
  · exact ⟨65, by omega, fun w => by kernel_rfl⟩
  · exact ⟨103, by omega, fun w => by kernel_rfl⟩
  · exact ⟨48, by omega, fun w => by kernel_rfl⟩
  · exact ⟨32, by omega, fun w => by kernel_rfl⟩

/-- Between two rounds: the tape, the codings, and all below as it was. -/
def G (w : World) (cs : Array Value) (wr : World) : Prop :=
  Below w.heap.size w wr ∧ TapeOk wr w.heap.size ∧ w.heap.size + 2 ≤ wr.heap.size ∧ wr.heap[w.heap.size + 1]? = some (.cells cs 3 (0, 0))

theorem gb_below {w w' : World} (h : Below w.heap.size w w') : w.grownBy w' none := ⟨h.os, h.tape, h.output, h.size, fun k hk _ => h.block k hk⟩

theorem G.below {w wr w' : World} {cs : Array Value} (h : G w cs wr) (hb : Below wr.heap.size wr w') : G w cs w' :=
  ⟨h.1.trans (hb.mono h.1.size), h.2.1.kept (gb_below hb) (by simp), Nat.le_trans h.2.2.1 hb.size, (hb.block _ (by have := h.2.2.1; omega)).trans h.2.2.2⟩

theorem G.next {w wr w' : World} {cs : Array Value} (h : G w cs wr) (hg : wr.grownBy w' (some w.heap.size)) (ht : TapeOk w' w.heap.size) : G w cs w' :=
  ⟨h.1.grown hg h.1.size (fun k e => by cases e; exact Nat.le_refl _), ht, Nat.le_trans h.2.2.1 hg.size, (hg.block _ (by have := h.2.2.1; omega) (fun e => by simp at e)).trans h.2.2.2⟩

theorem G.start {w : World} {cs : Array Value} {o : Obj} (ht : TapeOk (w.alloc o) w.heap.size) : G w cs ((w.alloc o).alloc (.cells cs 3)) := by
  have hb1 := box_below w o
  have hb2 := box_below (w.alloc o) (.cells cs 3)
  have e1 : (w.alloc o).heap.size = w.heap.size + 1 := by
    show (w.heap.push _).size = _
    simp
  have e2 : ((w.alloc o).alloc (.cells cs 3)).heap.size = w.heap.size + 2 := by
    show ((w.alloc o).heap.push _).size = _
    simp
  exact ⟨hb1.trans (hb2.mono (by omega)), ht.kept (World.grownBy_alloc _ _ none) (by simp), by omega, heap_alloc2_new _ _ _⟩

theorem G.cell {w wr : World} {cs : Array Value} (h : G w cs wr) (j : Nat) (hj : j < cs.size) : wr.cell? ⟨w.heap.size + 1, j, none⟩ = some (cs.toList.getD j undef) := by
  rw [cell_of_row _ _ _ _ _ _ h.2.2.2]
  simp [hj]

/-- A row of the call's own in which one byte is set. -/
theorem odd_set {w5 : World} {B L k : Nat} {v : Value} {E : List Nat} (h : w5.ownsRow B 5 1 v L (u8s E)) (hE : E.length = L) (hk : k < L) (hL : L ≤ 1000) (hle : ∀ x ∈ E, x ≤ 255) :
    ∃ g cap, v = .slice (some ⟨g, 0, none⟩) L cap ∧ B ≤ g ∧ w5.drew.frozen? ⟨g, k, none⟩ = false ∧ (∃ old : Nat, w5.drew.cell? ⟨g, k, none⟩ = some (.int .u8 (old : Int))) ∧
      ∀ b : Nat, b ≤ 255 → ∃ O : ByteArray, O.size = L ∧ (convert 23 9 (.slice (some ⟨g, 0, none⟩) L cap)).run Try.prog (w5.drew.setCell ⟨g, k, none⟩ (.int .u8 (b : Int))) = .ok (.string O) (w5.drew.setCell ⟨g, k, none⟩ (.int .u8 (b : Int))) := by
  have h' := h
  rcases h.2 with ⟨_, h0⟩ | ⟨g, cap, cur, rfl, hg, hh, _, _, _, htake⟩
  · omega
  · have hb : w5.drew.heap[g]? = some (.cells cur 5 (0, 0)) := hh
    have hc : ∀ j, j < L → w5.drew.cell? ⟨g, j, none⟩ = some (.int .u8 ((E.getD j 0 : Nat) : Int)) := fun j hj => by
      have := h'.cellAt j (by omega)
      have e : w5.drew.cell? ⟨g, j, none⟩ = w5.cell? ⟨g, j, none⟩ := rfl
      rw [e, this]
      simp [u8s, hE, hj]
    refine ⟨g, cap, rfl, hg, frozen_of_row _ _ _ _ _ hb, ⟨_, hc k hk⟩, fun b hb255 => ⟨strB (E.set k b), by rw [size_strB, List.length_set, hE], ?_⟩⟩
    refine run_convert_bytes_arg _ 23 5 Try.underlying23 Try.underlying5 g 0 L cap _ (by simp [hE]) (fun i hi => ?_) 9 Try.underlying9
    rw [Nat.zero_add]
    by_cases e : i = k
    · subst e
      rw [World.cell?_setCell_same _ _ _ (hc i hk)]
      simp [show i < E.length by omega]
    · rw [World.cell?_setCell_other (h := show (⟨g, k, none⟩ : Addr) ≠ ⟨g, i, none⟩ from fun h => e (by cases h; rfl)), hc i hi]
      have hki : ¬ k = i := fun h => e h.symm
      rw [List.getD_eq_getElem?_getD, List.getD_eq_getElem?_getD, List.getElem?_map, List.getElem?_set, if_neg hki]
      cases E[i]? <;> rfl


theorem conv_own {w : World} {base : Nat} {v : Value} {xs : List Nat} (h : w.ownsRow base 5 1 v xs.length (u8s xs)) : (convert 23 9 v).run Try.prog w = .ok (.string (strB xs)) w := by
  have h' := h
  rcases h.2 with ⟨rfl, e⟩ | ⟨g, cap, cur, rfl, hg, hh, hnc, hcm, _⟩
  · rw [List.eq_nil_of_length_eq_zero e]
    exact conv_zero w none 0
  · refine run_convert_bytes_arg w 23 5 Try.underlying23 Try.underlying5 g 0 xs.length cap _ (by simp) (fun i hi => ?_) 9 Try.underlying9
    rw [Nat.zero_add, h'.cellAt i (by omega)]
    simp [u8s, hi]

/-- 'append(out, x...)' of nothing. -/
theorem wp_by0 {ops : Array Oper} {rest : List Oper} {o : Oper} {a : Act} {w : World} {Q : Exit → Act → World → Prop} (hgd : o.guard = none) (s x : Operand)
    (ho : o.op = .call { callee := .builtin .append, args := #[s, x], argTypes := #[23, 23] }) (base : Nat) (v : Value) (D : Option Addr) (c : Nat) (hs : a.eval s = v) (hx : a.eval x = .slice D 0 c)
    (hown : w.ownsRow base 5 1 v 0 (u8s [])) (hbase : base ≤ w.heap.size)
    (hD : D = none → c = 0)
    (h : ∀ v' w', w'.ownsRow base 5 1 v' 0 (u8s []) → w.grownBy w' v.ownBlock → wpList Try.prog ops Q rest (a.put o.dst v') w') : wpList Try.prog ops Q (o :: rest) a w := by
  obtain ⟨i0, hi, hz0, hz1, hz2⟩ := info_parts info5
  cases D with
  | none =>
    obtain rfl := hD rfl
    exact wpList_append_own_none hgd s x 23 ho base 5 i0 1 Try.underlying23 hi v 0 (u8s []) hs hown hx (h v w hown (World.grownBy.refl _ _))
  | some ad =>
    refine wpList_append_own _ hgd s x 23 ho base 5 i0 (.int .u8 0) 1 1 Try.underlying23 hi hz0 hz1 hz2 rfl (by decide) v 0 (u8s []) hs hown ad 0 c [] hx (by simp) (fun j u hj => by simp at hj) (by simp) (by unfold maxLen; omega) (by omega) hbase ?_
    intro v' w' k1 k2 _
    exact h v' w' (by simpa using k1) k2

/-- What both decoders hand back: an error, or bytes. -/
theorem dec_split (c : Int) (s : ByteArray) : (∃ E : Int, ∀ w e w', AllPost (DecAll c s) w e w' → e = .returned (.tuple #[.slice none 0 0, .int .i64 E]) ∧ Below w.heap.size w w') ∨
    (∃ xs, ∀ w e w', AllPost (DecAll c s) w e w' → ∃ v, e = .returned (.tuple #[v, .int .i64 0]) ∧ ERel w xs v w') := by
  unfold DecAll
  split
  · exact .inl ⟨1, fun w e w' h => h⟩
  split
  · exact .inl ⟨3, fun w e w' h => h⟩
  · cases decL c (nums s) with
    | none => exact .inl ⟨5, fun w e w' h => h⟩
    | some xs => exact .inr ⟨xs, fun w e w' h => h.1⟩

theorem five {a : Int} (j : Nat) (hj : j < 5) : ∃ x : Int, (#[Value.int .i64 a, .int .i64 1, .int .i64 2, .int .i64 3, .int .i64 4] : Array Value).toList.getD j undef = .int .i64 x := by
  rcases (by omega : j = 0 ∨ j = 1 ∨ j = 2 ∨ j = 3 ∨ j = 4) with rfl | rfl | rfl | rfl | rfl <;> exact ⟨_, rfl⟩

theorem strs_cell {w : World} {g : Nat} {l : List ByteArray} (h : w.heap[g]? = some (.cells (l.map Value.string).toArray 9 (0, 0))) (j : Nat) (hj : j < l.length) : w.cell? ⟨g, j, none⟩ = some (.string (l.getD j ByteArray.empty)) := by
  rw [cell_of_row _ _ _ _ _ _ h]
  simp [hj]

theorem laidS {w w6 W : World} {cs : Array Value} (hcs : cs.size = 5) (h6 : G w cs w6) (s1 s2 s3 s4 : ByteArray) (hW : W = w6.alloc (.cells #[.string s1, .string s2, .string s3, .string s4] 9)) :
    G w cs W ∧ (∀ w', Below W.heap.size W w' → ∀ j, j < 4 → w'.cell? ⟨w6.heap.size, j, none⟩ = some (.string ([s1, s2, s3, s4].getD j ByteArray.empty))) := by
  have hb : Below w6.heap.size w6 W := by rw [hW]; exact box_below _ _
  have hs : W.heap.size = w6.heap.size + 1 := by
    rw [hW]
    show (w6.heap.push _).size = _
    simp
  refine ⟨h6.below hb, fun w' hw j hj => ?_⟩
  refine (hw.cell (p := ⟨w6.heap.size, j, none⟩) (by simp; omega)).trans ?_
  refine strs_cell (l := [s1, s2, s3, s4]) ?_ j hj
  rw [hW]
  exact heap_alloc_new _ _

theorem no_one {O : ByteArray} (h : O.size ≤ 100) : ¬ 9223372036854775807 < O.size + ByteArray.size { data := #[61] } := by
  have : ByteArray.size { data := #[61] } = 1 := rfl
  omega

theorem own_nil {w : World} {base n : Nat} {v : Value} {xs : List Value} (h : w.ownsRow base 5 1 v n xs) : ∀ D c, v = .slice D n c → D = none → c = 0 := by
  intro D c e hD
  rcases h.2 with ⟨rfl, _⟩ | ⟨g, cap, cur, rfl, _⟩
  · cases e; rfl
  · cases e; cases hD

set_option maxRecDepth 100000 in
set_option maxHeartbeats 8000000 in
theorem walk (a0 : Option Addr) (len0 cap0 : Nat) (z0 : List Int) (a1 : ByteArray) (a2 : Int) (a3 : Int) (a4 : Int) (w : World) (w0 : IsRow .i64 w a0 len0 cap0 z0) (w1 : a1.size ≤ maxLen) (w2 : (Lit.int .i64 a2).wf = true) (w3 : (Lit.int .i64 a3).wf = true) (w4 : (Lit.int .u8 a4).wf = true) :
    Calls Try.prog 4 #[.slice a0 len0 cap0, .string a1, .int .i64 a2, .int .i64 a3, .int .u8 a4] w fun e w' => e = .returned (.bool true) ∧ Below w.heap.size w w' := by
  have hb4 := Go.bounds_u8 w4
  obtain ⟨by', rfl⟩ : ∃ m : Nat, a4 = m := ⟨a4.toNat, by omega⟩
  have HG0 := Lib.hid (G.start (cs := #[.int .i64 a2, .int .i64 1, .int .i64 2, .int .i64 3, .int .i64 4]) (tape_new w0))
  obtain ⟨aj, haj, haj1⟩ : ∃ m : Nat, a3 % 256 = (m : Int) ∧ m < 256 := ⟨(a3 % 256).toNat, by omega, by omega⟩
  have e1 : bits .and .i64 a3 255 = (aj : Int) := (and255n a3).trans haj
  have e2 : bits .and .u8 (by' : Int) 7 = ((by' % 8 : Nat) : Int) := and_u8 by' 3 (by omega) (by decide)
  obtain ⟨bb, hbb, hpick⟩ := pick8 (by' % 8) (by omega)
  generalize by' % 8 = bi at *
  clear w0 w1 w2 w3 w4 haj hb4
  go_enter Try.func4, Try.ntmps4
  go_wp2_with fail
  generalize hWA : (w.alloc (.cells #[.slice a0 len0 cap0, .int .i64 0] 26)).alloc (.cells #[.int .i64 a2, .int .i64 1, .int .i64 2, .int .i64 3, .int .i64 4] 3) = wA at *
  clear hWA
  go_loopw [13] (fun i wr => G w #[.int .i64 a2, .int .i64 1, .int .i64 2, .int .i64 3, .int .i64 4] wr ∧ ∃ k : Nat, k ≤ 5 ∧ i = .int .i64 (k : Int)) (fun i _ => 5 - (intOf i).toNat)
  case atStart => exact ⟨HG0.out, 0, by omega, rfl⟩
  case round =>
    obtain ⟨hg, k, hk, rfl⟩ := hrel
    have HG := Lib.hid hg
    have hsz := hg.2.2.1
    clear hg
    by_cases hlt : k < 5
    · have hki : (k : Int) < 5 := by omega
      have m1 := and3k k hlt
      obtain ⟨M, hM⟩ : ∃ M, 1 + k % 4 = M := ⟨_, rfl⟩
      have m2 : (1 : Int) + ((k % 4 : Nat) : Int) = (M : Int) := by omega
      have m3 : IntKind.i64.wrap (M : Int) = (M : Int) := IntWalk.i64_in _ (by omega)
      clear hM
      generalize k % 4 = km at *
      go_wp2_with fail
      refine (next_any w.heap.size 12 _ HG.out.2.1 (by omega) (by omega)).mono ?_
      rintro e w1 ⟨x, hx0, hx1, rfl, hg1, ht1⟩
      obtain ⟨n1, rfl⟩ : ∃ m : Nat, x = m := ⟨x.toNat, by omega⟩
      have HG1 := Lib.hid (HG.out.next hg1 ht1)
      have hz1 := hg1.size
      clear hg1 ht1
      go_wp2_with fail
      refine (bytes_any w.heap.size n1 _ HG1.out.2.1 (by omega) (by omega)).mono ?_
      rintro e w2 ⟨v, rfl, bs, hl, hb, hrow, hg2, ht2⟩
      have HG2 := Lib.hid (HG1.out.next hg2 ht2)
      have HY := Lib.hid (by_own hrow hl hb).1
      have hl2 : bs.length ≤ 11 := by omega
      have HLE := Lib.hid hb
      clear hg2 ht2 hrow hl hb
      go_wp2_with fail
      refine (encoded_any (M : Int) _ bs _ HY.out (by omega)).mono ?_
      rintro e w3 ⟨v3, rfl, hr3⟩
      have HG3 := Lib.hid (HG2.out.below hr3.2)
      have hLE3 : ∀ x ∈ encL (M : Int) bs, x ≤ 255 := encL_le HLE.out
      have HLE3 := Lib.hid hLE3
      have hEl := encL_few (M : Int) bs
      have HY3 := Lib.hid (by_own hr3.1 rfl hLE3).1
      have hd3 : ∀ D c, v3 = .slice D (encL (M : Int) bs).length c → D = none → c = 0 := own_nil hr3.1
      clear hr3 hLE3
      generalize encL (M : Int) bs = E at *
      obtain ⟨D3, c3, rfl⟩ := HY3.out.form
      have HD3 := Lib.hid (hd3 D3 c3 rfl)
      clear hd3
      obtain ⟨L, hLL⟩ : ∃ L, E.length = L := ⟨_, rfl⟩
      rw [hLL] at hEl HY3 ⊢
      have HLL := Lib.hid hLL
      clear hLL
      have HLIT := Lib.hid (World.ownsRow_lit (base := w3.heap.size) (size := 1) (e := 5) w3 #[] 0 (Nat.le_refl _) (by unfold maxLen; omega) rfl)
      have HBL := Lib.hid (box_below w3 (.cells #[] 5))
      by_cases hL0 : L = 0
      · subst hL0
        have hD0 : D3 = none → c3 = 0 := HD3.out
        go_wp2_with (at_builtin; refine wp_by0 (by rfl) (.tmp 41) (.tmp 42) (by rfl) w3.heap.size _ D3 c3 (by rfl) (by rfl) HLIT.out (HBL.out.size) hD0 ?_; intro v5 w5 hown5 hgr5; obtain ⟨D5, c5, hv5⟩ := (by_own hown5 rfl (by simp)).1.form; subst hv5; obtain ⟨O, hOsz, hcO⟩ : ∃ O : ByteArray, O.size ≤ 100 ∧ (convert 23 9 (.slice D5 0 c5)).run Try.prog w5 = .ok (.string O) w5 := ⟨strB [], by rw [size_strB]; decide, conv_own (xs := []) hown5⟩; have hno := no_one hOsz; have HBW := Lib.hid (HBL.out.grown hgr5 HBL.out.size (fun g e => (HLIT.out.lt g e).1)); have hcE := conv_by (HY3.out.below HBW.out); clear hown5 hgr5)
        have HG6 := Lib.hid (HG3.out.below HBW.out)
        generalize w5 = w6 at *
        generalize strB E = S1 at *
        obtain ⟨hGB, hSS⟩ := laidS (W := w6.alloc (.cells #[.string a1, .string S1, .string O, .string (O ++ { data := #[61] })] 9)) rfl HG6.out a1 S1 O (O ++ { data := #[61] }) rfl
        have HGB := Lib.hid hGB
        have HSS := Lib.hid hSS
        clear hGB hSS
        clear hcE hcO hno
        generalize w6.alloc (.cells #[.string a1, .string S1, .string O, .string (O ++ { data := #[61] })] 9) = wB at *
        generalize [a1, S1, O, O ++ { data := #[61] }] = ss at *
        have HNX := Lib.hid (show ∀ w' w'', Below wB.heap.size wB w' → Below w'.heap.size w' w'' → Below wB.heap.size wB w'' from fun w' w'' h1 h2 => h1.trans (h2.mono h1.size))
        have HFIN := Lib.hid (show ∀ w', Below wB.heap.size wB w' → G w #[.int .i64 a2, .int .i64 1, .int .i64 2, .int .i64 3, .int .i64 4] w' from fun w' hw => HGB.out.below hw)
        have HINI := Lib.hid (Below.refl wB.heap.size wB)
        obtain ⟨x, hx⟩ := five (a := a2) k hlt
        have HCX := Lib.hid (show ∀ w', Below wB.heap.size wB w' → w'.cell? ⟨w.heap.size + 1, k, none⟩ = some (.int .i64 x) from fun w' hw => by rw [← hx]; exact (HFIN.out w' hw).cell k hlt)
        generalize wB.heap.size = B at *
        clear hx
        go_loopw [17] (fun i w3 => Below B wB w3 ∧ ∃ j : Nat, j ≤ 4 ∧ i = .int .i64 (j : Int)) (fun i _ => 4 - (intOf i).toNat)
        case atStart => exact ⟨HINI.out, 0, by omega, rfl⟩
        case round =>
          obtain ⟨hbr, j, hj, rfl⟩ := hrel
          have HBR := Lib.hid hbr
          clear hbr
          by_cases hjl : j < 4
          · have hji : (j : Int) < 4 := by omega
            have hcell := HSS.out _ HBR.out j hjl
            obtain ⟨S, hS⟩ : ∃ S, ss.getD j ByteArray.empty = S := ⟨_, rfl⟩
            have HS := Lib.hid (fun w' h => (HSS.out w' h j hjl).trans (congrArg (fun x => some (Value.string x)) hS))
            rw [hS] at hcell
            clear hS
            by_cases hbig : 3000 < S.size
            · have hdb : (3000 : Int) < (S.size : Int) := by omega
              go_wp2
              exact ⟨⟨HBR.out, j + 1, by omega, by go_num⟩, by simp [intOf]; omega⟩
            · have hdb : ¬ (3000 : Int) < (S.size : Int) := by omega
              have HH := Lib.hid (show ∀ w', Below B wB w' → (w'.cell? ⟨w6.heap.size, j, none⟩ = some (.string S) ∧ w'.cell? ⟨w.heap.size + 1, k, none⟩ = some (.int .i64 x)) ∧ Below B wB w' from fun w' hw => ⟨⟨HS.out w' hw, HCX.out w' hw⟩, hw⟩)
              have HHN := Lib.hid (show ∀ w' w'', ((w'.cell? ⟨w6.heap.size, j, none⟩ = some (.string S) ∧ w'.cell? ⟨w.heap.size + 1, k, none⟩ = some (.int .i64 x)) ∧ Below B wB w') → Below w'.heap.size w' w'' → ((w''.cell? ⟨w6.heap.size, j, none⟩ = some (.string S) ∧ w''.cell? ⟨w.heap.size + 1, k, none⟩ = some (.int .i64 x)) ∧ Below B wB w'') from fun w' w'' h1 h2 => HH.out _ (HNX.out _ _ h1.2 h2))
              have HSZ := Lib.hid (show S.size ≤ 1000000 by omega)
              have hS1 := HH.out _ HBR.out.drew
              rcases dec_split x S with ⟨E2, hD⟩ | ⟨xs, hD⟩
              · have HD := Lib.hid hD
                clear hD
                go_wp2_with fail
                go_region_held3 (fun w' => (w'.cell? ⟨w6.heap.size, j, none⟩ = some (.string S) ∧ w'.cell? ⟨w.heap.size + 1, k, none⟩ = some (.int .i64 x)) ∧ Below B wB w') (first | exact hS1 | assumption) (first
                  | (go_at_call 16; refine (decode_any x S _ HSZ.out).mono ?_; rintro e w7 hp; obtain ⟨rfl, hb7⟩ := HD.out _ _ _ hp; have hy7 := HHN.out _ _ (by assumption) hb7; clear hb7 hp))
                have HY7 := Lib.hid hy7
                have hS2 := HH.out _ HY7.out.2.drew
                clear hy7
                go_wp2_with fail
                go_region_held3 (fun w' => (w'.cell? ⟨w6.heap.size, j, none⟩ = some (.string S) ∧ w'.cell? ⟨w.heap.size + 1, k, none⟩ = some (.int .i64 x)) ∧ Below B wB w') (first | exact hS2 | assumption) (first
                  | (go_at_call 17; refine (refdecode_any x S _ HSZ.out).mono ?_; rintro e w8 hp; obtain ⟨rfl, hb8⟩ := HD.out _ _ _ hp; have hy8 := HHN.out _ _ (by assumption) hb8; clear hb8 hp))
                have HY8 := Lib.hid hy8
                have hz0 := conv_zero w8 none 0
                clear hy8
                go_wp2_with fail
                exact ⟨⟨HY8.out.2, j + 1, by omega, by go_num⟩, by simp [intOf]; omega⟩
              · have HD := Lib.hid hD
                clear hD
                go_wp2_with fail
                go_region_held3 (fun w' => (w'.cell? ⟨w6.heap.size, j, none⟩ = some (.string S) ∧ w'.cell? ⟨w.heap.size + 1, k, none⟩ = some (.int .i64 x)) ∧ Below B wB w') (first | exact hS1 | assumption) (first
                  | (go_at_call 16; refine (decode_any x S _ HSZ.out).mono ?_; rintro e w7 hp; obtain ⟨v7, rfl, hr7⟩ := HD.out _ _ _ hp; have hy7 := HHN.out _ _ (by assumption) hr7.2; have HR7 := Lib.hid hr7; clear hr7 hp))
                have HY7 := Lib.hid hy7
                have hS2 := HH.out _ HY7.out.2.drew
                clear hy7
                go_wp2_with fail
                go_region_held3 (fun w' => (w'.cell? ⟨w6.heap.size, j, none⟩ = some (.string S) ∧ w'.cell? ⟨w.heap.size + 1, k, none⟩ = some (.int .i64 x)) ∧ Below B wB w') (first | exact hS2 | assumption) (first
                  | (go_at_call 17; refine (refdecode_any x S _ HSZ.out).mono ?_; rintro e w8 hp; obtain ⟨v8, rfl, hr8⟩ := HD.out _ _ _ hp; have hy8 := HHN.out _ _ (by assumption) hr8.2; have hc8 := conv_own hr8.1; have hc7 := conv_own (own_bel HR7.out.1 ((Below.refl _ _).drew.trans (hr8.2.mono (Nat.le_refl _)))); clear hr8 hp))
                have HY8 := Lib.hid hy8
                clear hy8
                go_wp2_with fail
                exact ⟨⟨HY8.out.2, j + 1, by omega, by go_num⟩, by simp [intOf]; omega⟩
          · obtain rfl : j = 4 := by omega
            go_wp2_with fail
            first
              | exact ⟨⟨HFIN.out _ HBR.out, k + 1, by omega, by go_num⟩, by simp [intOf]; omega⟩
              | (refine ⟨?_, by simp [intOf]; omega⟩
                 repeat apply Exists.intro
                 refine ⟨?_, rfl⟩
                 exact ⟨HFIN.out _ HBR.out, k + 1, by omega, by go_num⟩)
      · have hL0i : (0 : Int) < (L : Int) := by omega
        have hLn : 0 < L := by omega
        obtain ⟨q, hq⟩ : ∃ q, aj % L = q := ⟨_, rfl⟩
        have hqL : q < L := by rw [← hq]; exact Nat.mod_lt _ hLn
        have e7 : (aj : Int).tmod (L : Int) = (q : Int) := by rw [Int.tmod_eq_emod_of_nonneg (by omega), ← hq]; exact (Int.natCast_emod _ _).symm
        have e7b : (aj : Int) % (L : Int) = (q : Int) := by rw [← hq]; exact (Int.natCast_emod _ _).symm
        have hqw : IntKind.i64.wrap (q : Int) = (q : Int) := IntWalk.i64_in _ (by omega)
        have hL0b : ((L : Int) == 0) = false := beq_eq_false_iff_ne.2 (by omega)
        have hL0n : ¬ L = 0 := by omega
        have hL0m : ¬ (L : Int) = 0 := by omega
        have hqi : (q : Int) < (L : Int) := by omega
        have hL1000 : L ≤ 1000 := by omega
        clear hq
        go_wp2_with (at_builtin; refine wp_by (by rfl) (.tmp 41) (.tmp 42) (by rfl) w3.heap.size _ (.slice D3 L c3) [] E (by rfl) (by rfl) HLIT.out (HY3.out.below HBL.out) (by rw [HLL.out]; omega) (by rw [HLL.out]; simp; omega) (HBL.out.size) ?_; intro v5 w5 hown5 hgr5; obtain ⟨g, cap, hv5, hg5, hfz, ⟨old, hold⟩, hset⟩ := odd_set (L := L) (k := q) (show w5.ownsRow w3.heap.size 5 1 v5 L (u8s E) from by have := hown5; rw [List.nil_append, HLL.out] at this; exact this) HLL.out hqL hL1000 HLE3.out; subst hv5; obtain ⟨O, hOL, hcO⟩ := hset bb hbb; have HCO := Lib.hid hcO; have HBW0 := Lib.hid ((HBL.out.grown hgr5 HBL.out.size (fun g e => (HLIT.out.lt g e).1)).drew.setCell (p := ⟨g, q, none⟩) hg5 (.int .u8 (bb : Int))); clear hown5 hgr5 hset hcO)
        go_region_held3 (fun _ => True) (trivial) (fail)
        have hcO : (convert 23 9 (.slice (some ⟨g, 0, none⟩) L cap)).run Try.prog (w5.setCell ⟨g, q, none⟩ (.int .u8 (bb : Int))).drew = .ok (.string O) (w5.setCell ⟨g, q, none⟩ (.int .u8 (bb : Int))).drew := HCO.out
        have hOsz : O.size ≤ 100 := by omega
        have HBW : Hid (Below w3.heap.size w3 (w5.setCell ⟨g, q, none⟩ (.int .u8 (bb : Int))).drew) := HBW0
        clear hfz hold HCO HBW0
        have hcE := conv_by (HY3.out.below HBW.out)
        have hno := no_one hOsz
        have HG6 := Lib.hid (HG3.out.below HBW.out)
        generalize (w5.setCell ⟨g, q, none⟩ (.int .u8 (bb : Int))).drew = w6 at *
        generalize strB E = S1 at *
        obtain ⟨hGB, hSS⟩ := laidS (W := w6.alloc (.cells #[.string a1, .string S1, .string O, .string (O ++ { data := #[61] })] 9)) rfl HG6.out a1 S1 O (O ++ { data := #[61] }) rfl
        have HGB := Lib.hid hGB
        have HSS := Lib.hid hSS
        clear hGB hSS
        go_wp2_with fail
        clear hcE hcO hno
        generalize w6.alloc (.cells #[.string a1, .string S1, .string O, .string (O ++ { data := #[61] })] 9) = wB at *
        generalize [a1, S1, O, O ++ { data := #[61] }] = ss at *
        have HNX := Lib.hid (show ∀ w' w'', Below wB.heap.size wB w' → Below w'.heap.size w' w'' → Below wB.heap.size wB w'' from fun w' w'' h1 h2 => h1.trans (h2.mono h1.size))
        have HFIN := Lib.hid (show ∀ w', Below wB.heap.size wB w' → G w #[.int .i64 a2, .int .i64 1, .int .i64 2, .int .i64 3, .int .i64 4] w' from fun w' hw => HGB.out.below hw)
        have HINI := Lib.hid (Below.refl wB.heap.size wB)
        obtain ⟨x, hx⟩ := five (a := a2) k hlt
        have HCX := Lib.hid (show ∀ w', Below wB.heap.size wB w' → w'.cell? ⟨w.heap.size + 1, k, none⟩ = some (.int .i64 x) from fun w' hw => by rw [← hx]; exact (HFIN.out w' hw).cell k hlt)
        generalize wB.heap.size = B at *
        clear hx
        go_loopw [17] (fun i w3 => Below B wB w3 ∧ ∃ j : Nat, j ≤ 4 ∧ i = .int .i64 (j : Int)) (fun i _ => 4 - (intOf i).toNat)
        case atStart => exact ⟨HINI.out, 0, by omega, rfl⟩
        case round =>
          obtain ⟨hbr, j, hj, rfl⟩ := hrel
          have HBR := Lib.hid hbr
          clear hbr
          by_cases hjl : j < 4
          · have hji : (j : Int) < 4 := by omega
            have hcell := HSS.out _ HBR.out j hjl
            obtain ⟨S, hS⟩ : ∃ S, ss.getD j ByteArray.empty = S := ⟨_, rfl⟩
            have HS := Lib.hid (fun w' h => (HSS.out w' h j hjl).trans (congrArg (fun x => some (Value.string x)) hS))
            rw [hS] at hcell
            clear hS
            by_cases hbig : 3000 < S.size
            · have hdb : (3000 : Int) < (S.size : Int) := by omega
              go_wp2
              exact ⟨⟨HBR.out, j + 1, by omega, by go_num⟩, by simp [intOf]; omega⟩
            · have hdb : ¬ (3000 : Int) < (S.size : Int) := by omega
              have HH := Lib.hid (show ∀ w', Below B wB w' → (w'.cell? ⟨w6.heap.size, j, none⟩ = some (.string S) ∧ w'.cell? ⟨w.heap.size + 1, k, none⟩ = some (.int .i64 x)) ∧ Below B wB w' from fun w' hw => ⟨⟨HS.out w' hw, HCX.out w' hw⟩, hw⟩)
              have HHN := Lib.hid (show ∀ w' w'', ((w'.cell? ⟨w6.heap.size, j, none⟩ = some (.string S) ∧ w'.cell? ⟨w.heap.size + 1, k, none⟩ = some (.int .i64 x)) ∧ Below B wB w') → Below w'.heap.size w' w'' → ((w''.cell? ⟨w6.heap.size, j, none⟩ = some (.string S) ∧ w''.cell? ⟨w.heap.size + 1, k, none⟩ = some (.int .i64 x)) ∧ Below B wB w'') from fun w' w'' h1 h2 => HH.out _ (HNX.out _ _ h1.2 h2))
              have HSZ := Lib.hid (show S.size ≤ 1000000 by omega)
              have hS1 := HH.out _ HBR.out.drew
              rcases dec_split x S with ⟨E2, hD⟩ | ⟨xs, hD⟩
              · have HD := Lib.hid hD
                clear hD
                go_wp2_with fail
                go_region_held3 (fun w' => (w'.cell? ⟨w6.heap.size, j, none⟩ = some (.string S) ∧ w'.cell? ⟨w.heap.size + 1, k, none⟩ = some (.int .i64 x)) ∧ Below B wB w') (first | exact hS1 | assumption) (first
                  | (go_at_call 16; refine (decode_any x S _ HSZ.out).mono ?_; rintro e w7 hp; obtain ⟨rfl, hb7⟩ := HD.out _ _ _ hp; have hy7 := HHN.out _ _ (by assumption) hb7; clear hb7 hp))
                have HY7 := Lib.hid hy7
                have hS2 := HH.out _ HY7.out.2.drew
                clear hy7
                go_wp2_with fail
                go_region_held3 (fun w' => (w'.cell? ⟨w6.heap.size, j, none⟩ = some (.string S) ∧ w'.cell? ⟨w.heap.size + 1, k, none⟩ = some (.int .i64 x)) ∧ Below B wB w') (first | exact hS2 | assumption) (first
                  | (go_at_call 17; refine (refdecode_any x S _ HSZ.out).mono ?_; rintro e w8 hp; obtain ⟨rfl, hb8⟩ := HD.out _ _ _ hp; have hy8 := HHN.out _ _ (by assumption) hb8; clear hb8 hp))
                have HY8 := Lib.hid hy8
                have hz0 := conv_zero w8 none 0
                clear hy8
                go_wp2_with fail
                exact ⟨⟨HY8.out.2, j + 1, by omega, by go_num⟩, by simp [intOf]; omega⟩
              · have HD := Lib.hid hD
                clear hD
                go_wp2_with fail
                go_region_held3 (fun w' => (w'.cell? ⟨w6.heap.size, j, none⟩ = some (.string S) ∧ w'.cell? ⟨w.heap.size + 1, k, none⟩ = some (.int .i64 x)) ∧ Below B wB w') (first | exact hS1 | assumption) (first
                  | (go_at_call 16; refine (decode_any x S _ HSZ.out).mono ?_; rintro e w7 hp; obtain ⟨v7, rfl, hr7⟩ := HD.out _ _ _ hp; have hy7 := HHN.out _ _ (by assumption) hr7.2; have HR7 := Lib.hid hr7; clear hr7 hp))
                have HY7 := Lib.hid hy7
                have hS2 := HH.out _ HY7.out.2.drew
                clear hy7
                go_wp2_with fail
                go_region_held3 (fun w' => (w'.cell? ⟨w6.heap.size, j, none⟩ = some (.string S) ∧ w'.cell? ⟨w.heap.size + 1, k, none⟩ = some (.int .i64 x)) ∧ Below B wB w') (first | exact hS2 | assumption) (first
                  | (go_at_call 17; refine (refdecode_any x S _ HSZ.out).mono ?_; rintro e w8 hp; obtain ⟨v8, rfl, hr8⟩ := HD.out _ _ _ hp; have hy8 := HHN.out _ _ (by assumption) hr8.2; have hc8 := conv_own hr8.1; have hc7 := conv_own (own_bel HR7.out.1 ((Below.refl _ _).drew.trans (hr8.2.mono (Nat.le_refl _)))); clear hr8 hp))
                have HY8 := Lib.hid hy8
                clear hy8
                go_wp2_with fail
                exact ⟨⟨HY8.out.2, j + 1, by omega, by go_num⟩, by simp [intOf]; omega⟩
          · obtain rfl : j = 4 := by omega
            go_wp2_with fail
            first
              | exact ⟨⟨HFIN.out _ HBR.out, k + 1, by omega, by go_num⟩, by simp [intOf]; omega⟩
              | (refine ⟨?_, by simp [intOf]; omega⟩
                 repeat apply Exists.intro
                 refine ⟨?_, rfl⟩
                 exact ⟨HFIN.out _ HBR.out, k + 1, by omega, by go_num⟩)
    · obtain rfl : k = 5 := by omega
      go_wp2_with (go_at_call 14; refine (awake_any _).mono ?_; rintro e w9 ⟨rfl, hb9⟩)
      go_ret
      exact ⟨rfl, HG.out.1.trans (hb9.mono HG.out.1.size)⟩

/-! ### THE ROW's STEP: WRITTEN OUT: LEAVE IT -/
set_option maxRecDepth 100000 in
theorem lifted (os : Os) (started : os.Started) (H : Type) (enc : TypeId × Value → H) :
    ReturnsInHanded {} Try.checked os 4 .any (Rows.codingDecodesSpec.pre6 enc Try.prog Try.f4 Rows.codingDecodesRow.domain false) (Rows.codingDecodesSpec.post enc Try.prog Try.f4 false true false false) := by
  refine returnsInHanded_of_change (C := Try.checked) own started (by kernel_rfl) Try.func4
    (ChangeSpec.witness6 (enc := enc) (C := Try.checked) false ⟨#[], #[.slice none 0 0, .string ByteArray.empty, .int .i64 0, .int .i64 0, .int .u8 0], []⟩ 8 (by kernel_rfl) (by kernel_rfl) (by kernel_rfl) (by kernel_rfl)) ?_
  intro W base args ds gs before hval0 hW hcnd _
  have hval : ∀ (j : Nat) t v, Try.f4.params[j]? = some t → args[j]? = some v → Value.okWide Try.prog W .any base t v := hval0
  have hW' := hW
  obtain ⟨p, q, hA0, hV, rfl, hfz, hnd⟩ := hW
  have hA : DataW.TrodAll enc Try.prog W 0 (fun _ => true) true Try.f4.params.toList args.toList ds p := hA0
  rw [Try.params4] at hA hval
  obtain ⟨v0, vs0, d0, ds0, p0, q0, hargs, rfl, rfl, h0, r0⟩ := trodAll_cons hA
  obtain ⟨v1, vs1, d1, ds1, p1, q1, rfl, rfl, rfl, h1, r1⟩ := trodAll_cons r0
  obtain ⟨v2, vs2, d2, ds2, p2, q2, rfl, rfl, rfl, h2, r2⟩ := trodAll_cons r1
  obtain ⟨v3, vs3, d3, ds3, p3, q3, rfl, rfl, rfl, h3, r3⟩ := trodAll_cons r2
  obtain ⟨v4, vs4, d4, ds4, p4, q4, rfl, rfl, rfl, h4, r4⟩ := trodAll_cons r3
  obtain ⟨rfl, rfl, rfl⟩ := trodAll_nil r4
  obtain rfl : args = #[v0, v1, v2, v3, v4] := by cases args; simp_all
  obtain ⟨rfl, rfl⟩ := trodVars_none hV
  obtain ⟨a0, len0, cap0, rfl⟩ := okWide_slice Try.underlying22 (hval 0 22 v0 rfl rfl)
  have k0 := h0
  have lt0 : ∀ x ∈ p0, x.block < W.heap.size := by obtain ⟨m, hm⟩ := k0; exact DataW.trod_lt m _ _ _ hm
  obtain ⟨z0, w0⟩ : ∃ zs, IsRow .i64 W a0 len0 cap0 zs := by
    obtain ⟨fuel, hf⟩ := h0
    rcases open_ints Try.underlying22 Try.underlying3 (by kernel_rfl) hf with ⟨hcs, _⟩ | ⟨x, l, c, zs, hcs, _, hl, hm, hz, _, hcell, hwz⟩
    · simp [Value.cells] at hcs
      obtain ⟨rfl, rfl, rfl⟩ := hcs
      exact ⟨[], .inl ⟨rfl, rfl, rfl, rfl⟩⟩
    · simp [Value.cells] at hcs
      obtain ⟨rfl, rfl, rfl⟩ := hcs
      exact ⟨zs, .inr ⟨_, rfl, hl, hm, by simpa using hz, hcell, hwz⟩⟩
  obtain ⟨a1, rfl, rfl, rfl, w1⟩ := open_string Try.underlying9 (hval 1 9 v1 rfl rfl) h1
  obtain ⟨a2, rfl, rfl, rfl, w2⟩ := open_int Try.underlying3 (hval 2 3 v2 rfl rfl) h2
  obtain ⟨a3, rfl, rfl, rfl, w3⟩ := open_int Try.underlying3 (hval 3 3 v3 rfl rfl) h3
  obtain ⟨a4, rfl, rfl, rfl, w4⟩ := open_int Try.underlying5 (hval 4 5 v4 rfl rfl) h4
  clear hA0 hval0
  refine (walk a0 len0 cap0 z0 a1 a2 a3 a4 W w0 w1 w2 w3 w4).mono fun e W' ⟨he, bel⟩ => ?_
  subst he
  exact ⟨_, rfl, _, _, _, [], _, [], hW', trodAll_mk1 (shut_bool Try.underlying4 _), (trodAll_cons_mk (Below.trod laidOut (by kernel_rfl) (of_decide_eq_true (by kernel_rfl)) k0 bel lt0) (trodAll_cons_mk (shut_string Try.underlying9 w1) (trodAll_cons_mk (shut_int Try.underlying3 w2) (trodAll_cons_mk (shut_int Try.underlying3 w3) (trodAll_cons_mk (shut_int Try.underlying5 w4) trodAll_mk0))))), rfl, bel.frame _, fun h => by cases h⟩

theorem over : Rows.codingDecodesRow.holds Try.pinned (OpenSpec.ofChange Rows.codingDecodesSpec) :=
  OpenClaim.holds_of_wide 4 Try.f4 rfl rfl rfl rfl rfl rfl rfl ⟨rfl, rfl, rfl, rfl, rfl⟩ rfl rfl rfl rfl rfl (by kernel_rfl) Try.func4 (by kernel_rfl)
    (of_decide_eq_true (by kernel_rfl)) (by unfold Func.isWrapper; first | (rw [if_pos (by decide +kernel)]; kernel_rfl) | (rw [if_neg (by decide +kernel)]; exact ⟨rfl, rfl⟩))
    (fun os started H enc _ => lifted os started H enc)

/-- ████ THE STATEMENT ████ -/
theorem proved : Rows.CodingDecodesSaid := over
#print axioms proved
end Go.Proofs.Ythofhljbipkiaaa.codingDecodes
