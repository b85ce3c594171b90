import Derived.Test.YtdhofngildjifaaDiX
import Derived.Lib.SliceRun
namespace Go.Proofs.Ytdhofngildjifaa.Di
open Go.RowKit
open Go.Proofs.Ytdhofngildjifaa.Tp
set_option linter.unusedVariables false

theorem gb_setCells (g : Nat) : ∀ (vs : List Value) (o : Nat) (w : World), w.grownBy (w.setCells g o vs) (some g)
  | [], o, w => World.grownBy.refl w _
  | v :: vs, o, w => gb_trans (gb_set w g o v) (gb_setCells g vs (o + 1) _)
theorem iv_set (l : List Nat) (k x : Nat) : iv (l.set k x) = (iv l).set k (.int .i64 (x : Int)) := by simp [iv]

/-- What DeleteFunc has done ahead of place j: those that stay stand in front, i of them. -/
structure Df (f : Nat → Bool) (l cs : List Nat) (i j : Nat) : Prop where
  len : cs.length = l.length
  lt : i < j
  le : j ≤ l.length
  front : cs.take i = (l.take j).filter (fun x => !f x)
  back : cs.drop j = l.drop j
theorem flt_yes {f : Nat → Bool} {x : Nat} (h : f x = true) : [x].filter (fun x => !f x) = [] := by simp [h]
theorem flt_no {f : Nat → Bool} {x : Nat} (h : f x = false) : [x].filter (fun x => !f x) = [x] := by simp [h]
theorem take_one {l : List Nat} {j : Nat} (h : j < l.length) : l.take (j + 1) = l.take j ++ [l.getD j 0] := by
  rw [List.take_succ_eq_append_getElem h, List.getD_eq_getElem?_getD, List.getElem?_eq_getElem h]
  rfl
theorem Df.at_ {f : Nat → Bool} {l cs : List Nat} {i j : Nat} (h : Df f l cs i j) (hj : j < l.length) : cs.getD j 0 = l.getD j 0 := by
  have := congrArg (fun (q : List Nat) => q.getD 0 0) h.back
  simpa [List.getD_eq_getElem?_getD, List.getElem?_drop] using this
theorem Df.start {f : Nat → Bool} {l : List Nat} {i : Nat} (hi : i < l.length) (h1 : f (l.getD i 0) = true) (h0 : ∀ k, k < i → f (l.getD k 0) = false) : Df f l l i (i + 1) := by
  refine ⟨rfl, by omega, hi, ?_, rfl⟩
  have key : ∀ k, k ≤ i → (l.take k).filter (fun x => !f x) = l.take k := by
    intro k
    induction k with
    | zero => intro _; rfl
    | succ k ih =>
      intro hk
      rw [take_one (by omega), List.filter_append, ih (by omega)]
      rw [flt_no (h0 k (by omega))]
  rw [take_one hi, List.filter_append, key i (Nat.le_refl _), flt_yes h1, List.append_nil]
theorem Df.skip {f : Nat → Bool} {l cs : List Nat} {i j : Nat} (h : Df f l cs i j) (hj : j < l.length) (hf : f (l.getD j 0) = true) : Df f l cs i (j + 1) := by
  refine ⟨h.len, by have := h.lt; omega, hj, ?_, ?_⟩
  · rw [take_one hj, List.filter_append, h.front, flt_yes hf, List.append_nil]
  · rw [← List.drop_drop, ← List.drop_drop, h.back]
theorem Df.keep {f : Nat → Bool} {l cs : List Nat} {i j : Nat} (h : Df f l cs i j) (hj : j < l.length) (hf : f (l.getD j 0) = false) : Df f l (cs.set i (l.getD j 0)) (i + 1) (j + 1) := by
  have hlt := h.lt
  have hlen := h.len
  refine ⟨by rw [List.length_set]; exact h.len, by omega, hj, ?_, ?_⟩
  · have e1 : i < (cs.set i (l.getD j 0)).length := by simp; omega
    rw [take_one e1, take_one hj, List.filter_append, ← h.front]
    have e2 : (cs.set i (l.getD j 0)).take i = cs.take i := by rw [List.take_set, List.set_eq_of_length_le (by simp; omega)]
    have e3 : (cs.set i (l.getD j 0)).getD i 0 = l.getD j 0 := by rw [getD_set (by omega), if_pos rfl]
    rw [e2, e3, flt_no hf]
  · rw [List.drop_set, if_pos (by omega), ← List.drop_drop, ← List.drop_drop, h.back]
theorem Df.len_ {f : Nat → Bool} {l cs : List Nat} {i j : Nat} (h : Df f l cs i j) (hj : j = l.length) : (l.filter (fun x => !f x)).length = i ∧ cs.take i = l.filter (fun x => !f x) := by
  have e := h.front
  rw [hj, List.take_length] at e
  refine ⟨?_, e⟩
  rw [← e, List.length_take]
  have := h.lt
  have := h.len
  omega
theorem filter_all {f : Nat → Bool} {l : List Nat} (h : ∀ k, k < l.length → f (l.getD k 0) = false) : l.filter (fun x => !f x) = l := by
  rw [List.filter_eq_self]
  intro x hx
  obtain ⟨k, hk, e⟩ := List.getElem_of_mem hx
  have := h k hk
  rw [List.getD_eq_getElem?_getD, List.getElem?_eq_getElem hk] at this
  simp at this
  rw [← e]; simp [this]

theorem zero3 : ∀ w, (zeroValue 3).run Try.prog w = .ok (.int .i64 0) w := fun w => by kernel_rfl
theorem own_spare {w : World} {B e n c g : Nat} {xs : List Value} (h : w.ownsRow B e 1 (.slice (some ⟨g, 0, none⟩) n c) n xs) : n ≤ c ∧ (∀ k, k < c → (w.cell? ⟨g, k, none⟩).isSome = true) ∧ ∀ k, w.frozen? ⟨g, k, none⟩ = false := by
  rcases h.2 with ⟨hv, _⟩ | ⟨g', cap, cur, hv, hB, hh, h1, h2, h3, ht⟩
  · cases hv
  · cases hv
    refine ⟨h1, fun k hk => ?_, fun k => frozen_of_row _ _ _ _ _ hh⟩
    rw [cell_of_row _ _ _ _ _ _ hh]
    have : k < cur.size := by omega
    simp [this]

theorem row_heap {w : World} {B e n c g : Nat} {xs : List Value} (h : w.ownsRow B e 1 (.slice (some ⟨g, 0, none⟩) n c) n xs) : ∃ o, w.heap[g]? = some o := by
  rcases h.2 with ⟨hv, _⟩ | ⟨g', cap, cur, hv, hB, hh, h1, h2, h3, ht⟩
  · cases hv
  · cases hv
    exact ⟨_, hh⟩

def DfPost (B : Nat) (R : List Nat) (w : World) (e : Ending) (w' : World) : Prop := ∃ A c', e = .returned (.slice A R.length c') ∧ Row w' B 1 A R.length (iv R) ∧ Below B w w'

set_option maxRecDepth 100000 in
set_option maxHeartbeats 1000000 in
theorem delfunc_any (B : Nat) (l : List Nat) (ca : Array Value) (A : Option Addr) (n c : Nat) (f : Nat → Bool) (w : World) (hown : w.ownsRow B 3 1 (.slice A n c) n (iv l)) (hB : B ≤ w.heap.size) (hn : n ≤ 1000)
    (hp : ∀ x w', Below B w w' → Calls Try.prog 51 (#[.int .i64 (x : Int)] ++ ca) w' fun e w'' => e = .returned (.bool (f x)) ∧ w' = w'') :
    Calls Try.prog 50 #[.slice A n c, .func (.func 51) #[] ca] w (DfPost B (l.filter (fun x => !f x)) w) := by
  have hln : l.length = n := by have := hown.1; rw [iv_len] at this; omega
  have HIX := Lib.hid (idx51_any l ca A n c (fun i => f (l.getD i 0)) w hn ((row_of_own hown).base (Nat.zero_le _)) (fun i hi w' hw => (hp _ w' (hw.mono hB)).mono (fun e w'' he => ⟨he.1, he.2 ▸ Below.refl _ _⟩)))
  have HOWN := Lib.hid hown
  have HP := Lib.hid hp
  have HLN := Lib.hid hln
  have hfi := fi_all (fun i => f (l.getD i 0)) n 0
  clear hown hp
  rcases hfi with ⟨h1, h2⟩ | ⟨i0, hi0, h1, h2, h3⟩
  · rw [h1] at HIX
    have hfl := filter_all (f := f) (l := l) (fun k hk => by have := h2 k (by omega); rwa [Nat.zero_add] at this)
    have HFL := Lib.hid hfl
    clear h1 h2 hfl hln
    go_enter Try.func50, Try.ntmps50
    go_wp2_with (go_at_call 62; refine HIX.out.mono ?_; rintro e w2 ⟨rfl, hb2⟩; have HB2 := Lib.hid hb2; clear hb2)
    go_ret
    refine ⟨A, c, ?_, ?_, HB2.out.mono hB⟩
    · rw [HFL.out, HLN.out]; first | rfl | simp
    · rw [HFL.out, HLN.out]
      exact (row_of_own HOWN.out).below HB2.out
  · rw [h1, Nat.zero_add] at HIX
    rw [Nat.zero_add] at h2
    obtain ⟨g, rfl, hgB, hgl⟩ := own_head HOWN.out (by omega)
    have hst := Df.start (f := f) (l := l) (i := i0) (by omega) h2 (fun k hk => by have := h3 k hk; rwa [Nat.zero_add] at this)
    have HST := Lib.hid hst
    have hw1 : IntKind.i64.wrap ((i0 : Int) + 1) = (i0 : Int) + 1 := IntWalk.i64_in _ (by omega)
    have hne : ((i0 : Int) == -1) = false := beq_eq_false_iff_ne.2 (by omega)
    clear h1 h2 h3 hst hln
    go_enter Try.func50, Try.ntmps50
    go_wp2_with (go_at_call 62; refine HIX.out.mono ?_; rintro e w2 ⟨rfl, hb2⟩; have HB2 := Lib.hid (hb2.mono hB); have HO2 := Lib.hid (own_below HOWN.out hb2); clear hb2)
    clear hw1 hne
    go_loopw [5, 6] (fun iv_ jv wr => ∃ (i j : Nat) (cs : List Nat), iv_ = .int .i64 (i : Int) ∧ jv = .int .i64 (j : Int) ∧ Df f l cs i j ∧ wr.ownsRow B 3 1 (.slice (some ⟨g, 0, none⟩) n c) n (iv cs) ∧ Below B w wr) (fun _ jv _ => n - (intOf jv).toNat)
    case atStart => exact ⟨i0, i0 + 1, l, rfl, by first | go_num | simp, HST.out, HO2.out, HB2.out⟩
    case round =>
      obtain ⟨i, j, cs, rfl, rfl, hdf, hown, hb⟩ := hrel
      have HDF := Lib.hid hdf
      have HOK := Lib.hid hown
      have HBK := Lib.hid hb
      have hij := hdf.lt
      have hjn := hdf.le
      rw [HLN.out] at hjn
      have hcl := hdf.len
      by_cases hlt : j < n
      · obtain ⟨b, off, e6, -, -, y0⟩ := (row_of_own hown).int hlt
        cases e6
        rw [Nat.zero_add, hdf.at_ (by rw [HLN.out]; exact hlt)] at y0
        have hK := HDF.out.keep (by rw [HLN.out]; exact hlt)
        have hS := HDF.out.skip (by rw [HLN.out]; exact hlt)
        obtain ⟨c1, c2, -, -⟩ := own_put (u := .int .i64 ((l.getD j 0 : Nat) : Int)) hown (show i < n by omega)
        rw [iv_at _ _ (by rw [hcl, HLN.out]; omega)] at c1
        have HPJ := Lib.hid (HP.out (l.getD j 0) wr hb)
        generalize l.getD j 0 = x at *
        have j0 : (0 : Int) ≤ (j : Int) := by omega
        have j1 : (j : Int) < (n : Int) := by omega
        have i0' : (0 : Int) ≤ (i : Int) := by omega
        have i1 : (i : Int) < (n : Int) := by omega
        clear hdf hown hb hcl HST HO2 HB2
        cases hf : f x with
        | true =>
          rw [hf] at HPJ
          have HN := Lib.hid (hS hf)
          clear hf hK hS c1 c2
          go_wp2_with (go_at_call 51; refine HPJ.out.mono ?_; rintro e w2 ⟨rfl, rfl⟩)
          exact ⟨⟨i, j + 1, cs, rfl, by go_num, HN.out, HOK.out, HBK.out⟩, by simp [intOf]; omega⟩
        | false =>
          rw [hf] at HPJ
          have HN := Lib.hid (hK hf)
          obtain ⟨-, -, o5, g5⟩ := own_put (u := .int .i64 (x : Int)) HOK.out (show i < n by omega)
          rw [← iv_set] at o5
          have HO5 := Lib.hid o5
          have HB5 := Lib.hid (HBK.out.grown g5 (Nat.le_trans hB HBK.out.size) (fun k e => by cases e; exact hgB))
          clear hf hK hS o5 g5
          go_wp2_with (go_at_call 51; refine HPJ.out.mono ?_; rintro e w2 ⟨rfl, rfl⟩)
          exact ⟨⟨i + 1, j + 1, _, by go_num, by go_num, HN.out, HO5.out, HB5.out⟩, by simp [intOf]; omega⟩
      · obtain rfl : n = j := by omega
        obtain ⟨hcap, hcc, hcf⟩ := own_spare hown
        have hcl2 : ∀ ty, (Builtin.clear_ #[22] ty #[.slice (some ⟨g, i, none⟩) (n - i) (c - i)]).run Try.prog wr = .ok (.tuple #[]) (wr.setCells g i (List.replicate (n - i) (.int .i64 0))) :=
          fun ty => Lib.run_clear_slice wr 22 3 ty (.int .i64 0) Try.underlying22 zero3 rfl rfl g i (n - i) (c - i) (by omega) (fun k hk => hcc _ (by omega)) (fun k hk => hcf _)
        have hG := gb_setCells g (List.replicate (n - i) (.int .i64 0)) i wr
        have hcells : ∀ k, k < i → (wr.setCells g i (List.replicate (n - i) (.int .i64 0))).cell? ⟨g, k, none⟩ = wr.cell? ⟨g, k, none⟩ := fun k hk => World.cell?_setCells_out g _ _ _ _ (fun _ _ => Or.inl hk)
        generalize wr.setCells g i (List.replicate (n - i) (.int .i64 0)) = W1 at *
        have HG := Lib.hid hG
        have HC := Lib.hid hcells
        have i0' : (0 : Int) ≤ (i : Int) := by omega
        have i1 : (i : Int) ≤ (n : Int) := by omega
        have i2 : (i : Int) ≤ (c : Int) := by omega
        have hne : ¬ c = i := by omega
        clear hdf hown hb hcl hcc hcf hG hcells HST HO2 HB2
        go_wp2_with fail
        go_ret
        have hd := HDF.out.len_ HLN.out.symm
        have hlk := HDF.out.len
        have hgl : g < wr.heap.size := by obtain ⟨o, ho⟩ := row_heap HOK.out; exact row_lt ho
        refine ⟨some ⟨g, 0, none⟩, c, ?_, ⟨?_, fun h0 => ⟨g, 0, rfl, hgB, Nat.lt_of_lt_of_le hgl HG.out.size, fun k u hk => ?_⟩⟩, ?_⟩
        · rw [hd.1]; first | rfl | simp
        · rw [iv_len]
        · rw [← hd.2] at hk
          have hki := (List.getElem?_eq_some_iff.1 hk).1
          simp only [iv, List.length_map, List.length_take] at hki
          rw [Nat.zero_add, HC.out k (by omega), ← Nat.zero_add k]
          obtain ⟨b6, off6, e6, -, -, hc6⟩ := (row_of_own HOK.out).mem (by omega)
          cases e6
          refine hc6 k u ?_
          unfold iv at hk ⊢
          rw [List.map_take, List.getElem?_take_of_lt (by omega)] at hk
          exact hk
        · exact HBK.out.grown HG.out (Nat.le_trans hB HBK.out.size) (fun k e => by cases e; exact hgB)

end Go.Proofs.Ytdhofngildjifaa.Di
