/- For every tape and every integer, EntropyOrder returns true: the order of bytes means nothing, equal bytes have no entropy, the mean is bounded by the number of different bytes. No condition. -/
import Derived.Test.YtidpkkekoldkgaaFrame
import Derived.Test.YtidpkkekoldkgaaEntOrder
import Derived.Test.YtidpkkekoldkgaaEntAwake
import Derived.Deep.RegionHeld3
import Derived.Deep.AppendLies
namespace Go.Proofs.Ytidpkkekoldkgaa.entropyOrder
open Go.ChangeShapes Go.WideShapes Go.ChangeAt Go.RowKit
open Go.ChangeMaps (open_string shut_string)
open Go.Proofs.Ytidpkkekoldkgaa.Tp Go.Proofs.Ytidpkkekoldkgaa.Ent
set_option linter.unusedVariables false

theorem own_cap {w : World} {base n c : Nat} {A : Option Addr} {xs : List Value} (h : w.ownsRow base 5 1 (.slice A n c) n xs) : n ≤ c := by
  rcases h.2 with ⟨e, h0⟩ | ⟨g, cap, cur, e, _, _, hx⟩
  · omega
  · injection e with e1 e2 e3
    omega

/-- The two rows that the loop makes. -/
structure OW (n₀ : Nat) (w wr : World) (bs : List Nat) (b0 M N : Nat) (v1 v2 : Value) : Prop where
  r1 : wr.ownsRow n₀ 5 1 v1 (N - M) (u8s (bs.drop M).reverse)
  r2 : wr.ownsRow n₀ 5 1 v2 (N - M) (u8s (List.replicate (N - M) b0))
  d1 : v1.ownBlock = none ∨ v1.ownBlock ≠ v2.ownBlock
  d2 : v2.ownBlock = none ∨ v2.ownBlock ≠ v1.ownBlock
  bl : Below n₀ w wr
  sz : n₀ ≤ wr.heap.size


theorem app {ops : Array Oper} {o : Oper} {a : Act} {w : World} {K : Act → World → Prop} {Q : Exit → Act → World → Prop} {E : Prop} (hgd : o.guard = none) (s x : Operand)
    (ho : o.op = .call { callee := .builtin .append, args := #[s, x], argTypes := #[27, 27] }) (base : Nat) (v : Value) (n : Nat) (xs : List Value) (hs : a.eval s = v) (hown : w.ownsRow base 5 1 v n xs)
    (g : Nat) (u : Value) (hx : a.eval x = .slice (some ⟨g, 0, none⟩) 1 1) (hg : w.cell? ⟨g, 0, none⟩ = some u) (h1 : u.oneCell' = true) (hn : n ≤ 1000) (hbase : base ≤ w.heap.size)
    (h : ∀ g cap w', w'.ownsRow base 5 1 (.slice (some ⟨g, 0, none⟩) (n + 1) cap) (n + 1) (xs ++ [u]) → w.grownBy w' v.ownBlock → (v.ownBlock = some g ∨ g = w.heap.size) → g < w'.heap.size → K (a.put o.dst (.slice (some ⟨g, 0, none⟩) (n + 1) cap)) w') :
    if Region.wanted o (yielded ops a.tmps) = true then Oper.wp Try.prog o a w K Q else E := by
  obtain ⟨i0, hi, hz0, hz1, hz2⟩ := info_parts info5
  refine step_append_lies w hgd s x 27 ho base 5 i0 (.int .u8 0) 1 1 Try.underlying27 hi hz0 hz1 hz2 rfl (by decide) v n xs hs hown ⟨g, 0, none⟩ 1 1 [u] hx rfl ?_ (by simpa using h1) (by decide) (by unfold maxLen; omega) (by omega) hbase w.heap.size rfl h
  intro j y hj
  cases j with
  | zero =>
    simp at hj
    subst hj
    exact hg
  | succ j => simp at hj

theorem drop_rev (bs : List Nat) (I : Nat) (h : I < bs.length) : (bs.drop I).reverse = (bs.drop (I + 1)).reverse ++ [bs.getD I 0] := by
  rw [List.drop_eq_getElem_cons h, List.reverse_cons, List.getD_eq_getElem?_getD, List.getElem?_eq_getElem h]
  rfl

theorem mean_bd {bs : List Nat} {N : Nat} (hb : ∀ b ∈ bs, b ≤ 255) (hl : bs.length = N) (h1 : 1 ≤ N) (h64 : N ≤ 64) : 0 ≤ ms bs (lgI N) 256 ∧ meanI bs N ≤ lgI (ds bs 256 : Nat) + 8 := by
  subst hl
  have hp := ms_pos bs (by omega) 256
  obtain ⟨_, _, hbd⟩ := ms_bound bs hb h1 h64
  have hL := lgI_bd (ds bs 256 : Nat)
  refine ⟨hp, ?_⟩
  unfold meanI
  rw [if_neg (by omega), Int.tdiv_eq_ediv_of_nonneg hp]
  generalize ms bs (lgI bs.length) 256 = M at *
  generalize lgI (ds bs 256 : Nat) = L at *
  have hN : (0 : Int) < (bs.length : Int) := by omega
  have hq0 : 0 ≤ M / (bs.length : Int) := Int.ediv_nonneg hp (by omega)
  have hq1 : M / (bs.length : Int) ≤ L + 8 := by
    have h2 : M / (bs.length : Int) * (bs.length : Int) ≤ M := Int.ediv_mul_le M (by omega)
    have h3 : M / (bs.length : Int) * (bs.length : Int) ≤ (L + 8) * (bs.length : Int) := by
      rw [Int.mul_comm (L + 8)]
      exact Int.le_trans h2 hbd
    exact Int.le_of_mul_le_mul_right h3 hN
  rw [IntWalk.wrap64_in _ (by omega)]
  exact hq1

theorem OW.step {n₀ : Nat} {wA wr W1 w1 W2 w2 : World} {bs : List Nat} {b0 I N g1 g2 c1 c2 x : Nat} {v1 v2 : Value} (h : OW n₀ wA wr bs b0 (I + 1) N v1 v2) (hI : I + 1 ≤ N) (hN : bs.length = N) (hx : bs.getD I 0 = x)
    (bl1 : Below n₀ wr W1) (gr1 : W1.grownBy w1 v1.ownBlock) (lie1 : v1.ownBlock = some g1 ∨ wr.heap.size ≤ g1) (lt1 : g1 < w1.heap.size)
    (own1 : W2.ownsRow n₀ 5 1 (.slice (some ⟨g1, 0, none⟩) (N - (I + 1) + 1) c1) (N - (I + 1) + 1) (u8s (bs.drop (I + 1)).reverse ++ [.int .u8 (x : Int)]))
    (bl2 : Below n₀ w1 W2) (gr2 : W2.grownBy w2 v2.ownBlock) (lie2 : v2.ownBlock = some g2 ∨ w1.heap.size ≤ g2)
    (own2 : w2.ownsRow n₀ 5 1 (.slice (some ⟨g2, 0, none⟩) (N - (I + 1) + 1) c2) (N - (I + 1) + 1) (u8s (List.replicate (N - (I + 1)) b0) ++ [.int .u8 (b0 : Int)])) :
    OW n₀ wA w2 bs b0 I N (.slice (some ⟨g1, 0, none⟩) (N - (I + 1) + 1) c1) (.slice (some ⟨g2, 0, none⟩) (N - (I + 1) + 1) c2) := by
  have z0 := h.sz
  have z1 := bl1.size
  have z2 := gr1.size
  have z3 := bl2.size
  have z4 := gr2.size
  have l1 := h.r1.lt
  have l2 := h.r2.lt
  have e1 : N - I = N - (I + 1) + 1 := by omega
  have hne : v2.ownBlock ≠ some g1 := by
    intro e
    have hl := l2 g1 e
    rcases lie1 with h1 | h1
    · rcases h.d2 with h2 | h2
      · rw [h2] at e
        cases e
      · exact h2 (by rw [e, h1])
    · omega
  have hgg : g1 ≠ g2 := by
    rintro rfl
    rcases lie2 with h1 | h1
    · exact hne h1
    · omega
  have r1 := own1.kept gr2 (.inr (fun e => hne e.symm))
  refine ⟨?_, ?_, .inr ?_, .inr ?_, ?_, by omega⟩
  · rw [drop_rev bs I (by omega), hx, ← u8s_snoc, e1]
    exact r1
  · rw [e1, List.replicate_succ', ← u8s_snoc]
    exact own2
  · intro e
    exact hgg (Option.some.inj e)
  · intro e
    exact hgg (Option.some.inj e).symm
  · exact ((((h.bl.trans (bl1.mono (Nat.le_refl _))).grown gr1 (by omega) (fun k e => (l1 k e).1)).trans bl2).grown gr2 (by omega) (fun k e => (l2 k e).1))

theorem keep2 {W W2 : World} {v : Value} {n₀ b i j : Nat} {X Y : Option Value} (hgr : W.grownBy W2 v.ownBlock) (hv : ∀ k, v.ownBlock = some k → n₀ ≤ k) (hb : b < n₀) (hs : n₀ ≤ W.heap.size)
    (h : W.cell? ⟨b, i, none⟩ = X ∧ W.cell? ⟨b, j, none⟩ = Y) : W2.cell? ⟨b, i, none⟩ = X ∧ W2.cell? ⟨b, j, none⟩ = Y := by
  have e := hgr.block b (by omega) (fun e => by have := hv b e.symm; omega)
  exact ⟨(World.cell?_of_block (w := W) e).trans h.1, (World.cell?_of_block (w := W) e).trans h.2⟩

theorem keep1 {W W2 : World} {v : Value} {m g : Nat} {X : Option Value} (hgr : W.grownBy W2 v.ownBlock) (hv : ∀ k, v.ownBlock = some k → k < m) (hg : m ≤ g) (hs : g < W.heap.size) (h : W.cell? ⟨g, 0, none⟩ = X) : W2.cell? ⟨g, 0, none⟩ = X := by
  have e := hgr.block g hs (fun e => by have := hv g e.symm; omega)
  exact (World.cell?_of_block (w := W) e).trans h

theorem cell_old (w : World) (c d : Value) : (((w.alloc (.cells #[c] 5)).alloc (.cells #[d] 5)).drew).cell? ⟨w.heap.size, 0, none⟩ = some c :=
  (World.cell?_alloc_lt _ _ _ (by simp)).trans (cell_one_new w c 5 0 _ rfl)
theorem cell_new (w : World) (c d : Value) : (((w.alloc (.cells #[c] 5)).alloc (.cells #[d] 5)).drew).cell? ⟨w.heap.size + 1, 0, none⟩ = some d := by
  rw [show w.heap.size + 1 = (w.alloc (.cells #[c] 5)).heap.size from by simp]
  exact cell_one_new (w.alloc (.cells #[c] 5)) d 5 0 _ rfl

theorem own_sep {wr w1 : World} {o1 o2 : Obj} {row : Option Nat} {base n : Nat} {v : Value} {xs : List Value} (r : wr.ownsRow base 5 1 v n xs) (gr : ((wr.alloc o1).drew).grownBy w1 row) (d : v.ownBlock = none ∨ v.ownBlock ≠ row) : ((w1.alloc o2).drew).ownsRow base 5 1 v n xs := (((r.alloc _).drew.kept gr d).alloc _).drew
theorem own_tog {wr w1 : World} {o1 o2 : Obj} {row : Option Nat} {base n : Nat} {v : Value} {xs : List Value} (r : wr.ownsRow base 5 1 v n xs) (gr : ((wr.alloc o1).alloc o2).drew.grownBy w1 row) (d : v.ownBlock = none ∨ v.ownBlock ≠ row) : w1.ownsRow base 5 1 v n xs := ((r.alloc _).alloc _).drew.kept gr d
theorem own_one {wr : World} {o1 : Obj} {base n : Nat} {v : Value} {xs : List Value} (r : wr.ownsRow base 5 1 v n xs) : ((wr.alloc o1).drew).ownsRow base 5 1 v n xs := (r.alloc _).drew
theorem own_two {wr : World} {o1 o2 : Obj} {base n : Nat} {v : Value} {xs : List Value} (r : wr.ownsRow base 5 1 v n xs) : ((wr.alloc o1).alloc o2).drew.ownsRow base 5 1 v n xs := ((r.alloc _).alloc _).drew
theorem cell_one (w : World) (c : Value) : ((w.alloc (.cells #[c] 5)).drew).cell? ⟨w.heap.size, 0, none⟩ = some c := cell_one_new w c 5 0 _ rfl

theorem keep_old {wr W2 : World} {v c d : Value} (hgr : (((wr.alloc (.cells #[c] 5)).alloc (.cells #[d] 5)).drew).grownBy W2 v.ownBlock) (hv : ∀ k, v.ownBlock = some k → k < wr.heap.size) : W2.cell? ⟨wr.heap.size, 0, none⟩ = some c :=
  (keep1 hgr hv (Nat.le_refl _) (by simp; omega) (cell_old wr c d) : W2.cell? ⟨wr.heap.size, 0, none⟩ = some c)
theorem keep_new {wr W2 : World} {v c d : Value} (hgr : (((wr.alloc (.cells #[c] 5)).alloc (.cells #[d] 5)).drew).grownBy W2 v.ownBlock) (hv : ∀ k, v.ownBlock = some k → k < wr.heap.size) : W2.cell? ⟨wr.heap.size + 1, 0, none⟩ = some d :=
  (keep1 hgr hv (by omega) (by simp) (cell_new wr c d) : W2.cell? ⟨wr.heap.size + 1, 0, none⟩ = some d)

set_option maxRecDepth 100000 in
set_option maxHeartbeats 4000000 in
theorem walk (a0 : Option Addr) (len0 cap0 : Nat) (z0 : List Int) (a1 : Int) (w : World) (w0 : IsRow .i64 w a0 len0 cap0 z0) (w1 : (Lit.int .i64 a1).wf = true) :
    Calls Try.prog 5 #[.slice a0 len0 cap0, .int .i64 a1] w fun e w' => e = .returned (.bool true) ∧ Below w.heap.size w w' := by
  have htp := tape_new w0
  clear w0 w1
  have hn := and_63 a1
  obtain ⟨K, hK⟩ : ∃ K : Nat, a1 % 64 = (K : Int) := ⟨(a1 % 64).toNat, by omega⟩
  have hK63 : K ≤ 63 := by omega
  rw [hK] at hn
  clear hK
  have e1 : (1 : Int) + (K : Int) = ((1 + K : Nat) : Int) := by omega
  have HE1 := Lib.hid e1
  clear e1
  have HTP := Lib.hid htp
  have HAW := Lib.hid awake_any
  clear htp
  go_enter Try.func5, Try.ntmps5
  go_wp2_with fail
  rw [HE1.out]
  refine (bytes_any w.heap.size (1 + K) _ HTP.out (by simp) (by omega)).mono ?_
  rintro e wA ⟨vA, rfl, bsA, hlA, hbA, hrowA, hgA, htA⟩
  have hszA := hgA.size
  simp at hszA
  obtain ⟨A, cA, rfl, _⟩ := row_form hrowA
  have hcA := own_cap hrowA
  have hbl : Below w.heap.size w wA := ((Below.refl _ w).alloc (Nat.le_refl _) _).grown hgA (by simp) (fun k e => by cases e; omega)
  have byA := bytes_of_row hrowA hbA (by omega)
  have HBL := Lib.hid hbl
  have HBY := Lib.hid byA
  have HBB := Lib.hid hbA
  have HLA := Lib.hid hlA
  clear hlA hbA hrowA hgA htA hbl byA HTP hn
  generalize hNN : 1 + K = N at *
  have hN1 : 1 ≤ N := by omega
  have hN64 : N ≤ 64 := by omega
  clear hNN HE1
  go_wp2_with fail
  obtain ⟨b, off, hA, hb, hcell⟩ := HBY.out.2.2.2 (by omega)
  subst hA
  have HC := Lib.hid hcell
  clear hcell
  have hob := info_parts info5
  obtain ⟨i0, hi, hz0, hz1, hz2⟩ := hob
  have HI := Lib.hid hi
  have HI0 := Lib.hid hz0
  have HI1 := Lib.hid hz1
  have HI2 := Lib.hid hz2
  clear hi hz0 hz1 hz2
  generalize hb0 : bsA.getD 0 0 = b0 at *
  go_loopw [7, 8, 9] (fun s1 s2 i wr => ∃ (M : Nat) (v1 v2 : Value), M ≤ N ∧ i = .int .i64 ((M : Int) - 1) ∧ v1 = s1 ∧ v2 = s2 ∧ OW wA.heap.size wA wr bsA b0 M N v1 v2) (fun _ _ i _ => (intOf i + 1).toNat)
  case atStart =>
    refine ⟨N, _, _, Nat.le_refl _, rfl, rfl, rfl, ?_, ?_, .inl rfl, .inl rfl, Below.refl _ _, Nat.le_refl _⟩
    · rw [Nat.sub_self, List.drop_eq_nil_of_le (by rw [HLA.out]; omega)]
      exact World.ownsRow_nil _ _ _ _
    · rw [Nat.sub_self]
      exact World.ownsRow_nil _ _ _ _
  case round =>
    obtain ⟨M, v1, v2, hM, rfl, rfl, rfl, how⟩ := hrel
    have HOW := Lib.hid how
    clear how
    cases M with
    | zero =>
      have hz : ((0 : Nat) : Int) - 1 = -1 := rfl
      rw [hz]
      clear hz
      have r1 := HOW.out.r1
      have r2 := HOW.out.r2
      rw [Nat.sub_zero, List.drop_zero] at r1
      rw [Nat.sub_zero] at r2
      obtain ⟨A1, C1, rfl, _⟩ := row_form r1
      obtain ⟨A2, C2, rfl, _⟩ := row_form r2
      have y1 := bytes_of_row r1 (fun x hx => HBB.out x (by simpa using hx)) (by omega)
      have hb00 : b0 ≤ 255 := by
        rw [← hb0, List.getD_eq_getElem?_getD, List.getElem?_eq_getElem (by rw [HLA.out]; omega)]
        exact HBB.out _ (List.getElem_mem _)
      have y2 := bytes_of_row r2 (fun x hx => by rw [List.eq_of_mem_replicate hx]; exact hb00) (by omega)
      have y0 := HBY.out.below HOW.out.bl
      obtain ⟨hmb, hme⟩ := mean_bd HBB.out HLA.out hN1 hN64
      have hfb := few_id (bs := bsA) (by rw [HLA.out]; omega)
      have hfr := few_id (bs := bsA.reverse) (by rw [List.length_reverse, HLA.out]; omega)
      have hfs := few_id (bs := List.replicate N b0) (by rw [List.length_replicate]; omega)
      have cb := fun W (h : Below wr.heap.size wr W) => measure_any _ N cA bsA W (y0.below h)
      have cr := fun W (h : Below wr.heap.size wr W) => measure_any _ N C1 bsA.reverse W (y1.below h)
      have cs := fun W (h : Below wr.heap.size wr W) => measure_any _ N C2 (List.replicate N b0) W (y2.below h)
      have cm := fun W (h : Below wr.heap.size wr W) => mean_any _ N cA bsA W (y0.below h) (by omega)
      have cd := fun W (h : Below wr.heap.size wr W) => distinct_any _ N cA bsA W (y0.below h)
      rw [hfb] at cb cd
      rw [hfr, ms_reverse] at cr
      rw [hfs, ms_same] at cs
      have CB := Lib.hid cb
      have CR := Lib.hid cr
      have CS := Lib.hid cs
      have CM := Lib.hid cm
      have CD := Lib.hid cd
      have CL := Lib.hid log_any
      have hL := lgI_bd (ds bsA 256 : Nat)
      have hbl := HBL.out.trans (HOW.out.bl.mono HBL.out.size)
      have HBW := Lib.hid hbl
      have hb0 : Below wr.heap.size wr wr := Below.refl _ _
      have B0 := Lib.hid hb0
      clear cb cr cs cm cd hfb hfr hfs y0 y1 y2 r1 r2 hbl hb0 HBY HBB HLA HBL HOW HC HI HI0 HI1 HI2
      generalize ms bsA (lgI N) 256 = MB at *
      generalize meanI bsA N = ME at *
      generalize hDD : ds bsA 256 = DD at *
      generalize hLD : lgI (DD : Int) = LD at *
      have f1 : decide (MB < 0) = false := by rw [decide_eq_false_iff_not]; omega
      have f2 : decide (ME ≤ LD + 8) = true := by rw [decide_eq_true_iff]; exact hme
      clear hDD
      have cl : ∀ w, Calls Try.prog 13 #[.int .i64 (DD : Int)] w fun e w' => e = .returned (.int .i64 LD) ∧ w = w' := by
        intro w
        rw [← hLD]
        exact CL.out _ _
      have CL2 := Lib.hid cl
      clear cl CL hLD
      go_wp2_with (first
        | (go_at_call 20; refine (CB.out _ B0.out).mono ?_; rintro e w1 ⟨rfl, hb⟩; have B1 := Lib.hid (B0.out.trans (hb.mono B0.out.size)); clear hb B0)
        | (go_at_call 20; refine (CR.out _ B1.out).mono ?_; rintro e w2 ⟨rfl, hb⟩; have B2 := Lib.hid (B1.out.trans (hb.mono B1.out.size)); clear hb B1)
        | (go_at_call 20; refine (CS.out _ B2.out).mono ?_; rintro e w3 ⟨rfl, hb⟩; have B3 := Lib.hid (B2.out.trans (hb.mono B2.out.size)); clear hb B2)
        | (go_at_call 20; refine (CB.out _ B3.out).mono ?_; rintro e w4 ⟨rfl, hb⟩; have B4 := Lib.hid (B3.out.trans (hb.mono B3.out.size)); clear hb B3)
        | (go_at_call 24; refine (CM.out _ B4.out).mono ?_; rintro e w5 ⟨rfl, hb⟩; have B5 := Lib.hid (B4.out.trans (hb.mono B4.out.size)); clear hb B4)
        | (go_at_call 22; refine (CD.out _ B5.out).mono ?_; rintro e w6 ⟨rfl, hb⟩; have B6 := Lib.hid (B5.out.trans (hb.mono B5.out.size)); clear hb B5)
        | (go_at_call 13; refine (CL2.out _).mono ?_; rintro e w7 ⟨rfl, rfl⟩)
        | (go_at_call 15; refine (HAW.out _).mono ?_; rintro e w8 ⟨rfl, hb⟩; have B8 := Lib.hid (B6.out.trans (hb.mono B6.out.size)); clear hb))
      all_goals go_ret
      all_goals exact ⟨rfl, HBW.out.trans (B8.out.mono HBW.out.size)⟩
    | succ I =>
      have hI : ((I + 1 : Nat) : Int) - 1 = (I : Int) := by omega
      rw [hI]
      have hc1 := (HOW.out.bl.cell (p := ⟨b, off + I, none⟩) hb).trans (HC.out I (by omega))
      have hc0 := (HOW.out.bl.cell (p := ⟨b, off + 0, none⟩) hb).trans (HC.out 0 (by omega))
      rw [hb0, Nat.add_zero] at hc0
      have hi0 : (0 : Int) ≤ (I : Int) := Int.natCast_nonneg _
      have hi1 : (I : Int) < (N : Int) := by omega
      have hN0 : 0 < N := by omega
      have hlt := Nat.lt_of_lt_of_le hb HOW.out.sz
      generalize hx : bsA.getD I 0 = x at *
      go_wp2_with fail
      have r1 := HOW.out.r1
      have r2 := HOW.out.r2
      have hs0 := HOW.out.sz
      have hv1 : ∀ k, v1.ownBlock = some k → wA.heap.size ≤ k := fun k e => (r1.lt k e).1
      have hd2 := HOW.out.d2
      have hv3 : ∀ k, v1.ownBlock = some k → k < wr.heap.size := fun k e => (r1.lt k e).2
      have hv2 : ∀ k, v2.ownBlock = some k → wA.heap.size ≤ k := fun k e => (r2.lt k e).1
      go_region_held3 (fun w' => w'.cell? ⟨b, off + I, none⟩ = some (.int .u8 (x : Int)) ∧ w'.cell? ⟨b, off, none⟩ = some (.int .u8 (b0 : Int)))
        (first | exact ⟨hc1, hc0⟩ | exact keep2 gr2 hv2 hb (by simp; omega) (by assumption) | exact keep2 gr2 hv2 hb (by omega) (by assumption) | exact keep2 gr1 hv1 hb (by simp; omega) (by assumption) | go_keep)
        (first
          | ((refine app (by rfl) (.tmp 25) (.tmp 30) (by rfl) wA.heap.size v1 (N - (I + 1)) (u8s (bsA.drop (I + 1)).reverse) (by rfl) ?_ _ (.int .u8 (x : Int)) (by rfl) ?_ rfl (by omega) ?_ ?_); (go_loud (first | exact own_one r1 | exact own_two r1)); (go_loud (first | exact cell_one _ _ | exact cell_old _ _ _ | exact cell_new _ _ _)); (first | (simp; omega) | omega); (intro g1 c1 w1 own1 gr1 lie1 lt1; have hz1 := gr1.size; (try simp at hz1); (try simp at lie1)))
          | ((refine app (by rfl) (.tmp 32) (.tmp 36) (by rfl) wA.heap.size v2 (N - (I + 1)) (u8s (List.replicate (N - (I + 1)) b0)) (by rfl) ?_ _ (.int .u8 (b0 : Int)) (by rfl) ?_ rfl (by omega) ?_ ?_); (go_loud (first | exact own_sep r2 gr1 hd2 | exact own_tog r2 gr1 hd2)); (go_loud (first | exact cell_one _ _ | exact keep_old gr1 hv3 | exact keep_new gr1 hv3)); (first | (simp; omega) | omega); (intro g2 c2 w2 own2 gr2 lie2 lt2; have hz2 := gr2.size; (try simp at hz2); (try simp at lie2))))
      all_goals go_wp2_with fail
      all_goals have q1 : v1.ownBlock = some g1 ∨ wr.heap.size ≤ g1 := lie1.imp id (fun e => by omega)
      all_goals have q2 : v2.ownBlock = some g2 ∨ w1.heap.size ≤ g2 := lie2.imp id (fun e => by omega)
      all_goals have hIN : I + 1 ≤ N := by omega
      · have hs1 : wA.heap.size ≤ w1.heap.size := by omega
        exact ⟨⟨I, _, _, by omega, rfl, rfl, rfl, HOW.out.step hIN HLA.out hx ((Below.refl _ _).alloc hs0 _).drew gr1 q1 lt1 (own1.alloc _) ((Below.refl _ _).alloc hs1 _) gr2 q2 own2⟩, by simp [intOf]⟩
      · exact ⟨⟨I, _, _, by omega, rfl, rfl, rfl, HOW.out.step hIN HLA.out hx (((Below.refl _ _).alloc hs0 _).alloc (by simp; omega) _).drew gr1 q1 lt1 own1 (Below.refl _ _) gr2 q2 own2⟩, by simp [intOf]⟩
      · exact ⟨⟨I, _, _, by omega, rfl, rfl, rfl, HOW.out.step hIN HLA.out hx (((Below.refl _ _).alloc hs0 _).alloc (by simp; omega) _).drew gr1 q1 lt1 own1 (Below.refl _ _) gr2 q2 own2⟩, by simp [intOf]⟩

/-! ### THE ROW's STEP: WRITTEN OUT: LEAVE IT -/
set_option maxRecDepth 100000 in
theorem lifted (os : Os) (started : os.Started) (H : Type) (enc : TypeId × Value → H) :
    ReturnsInHanded {} Try.checked os 5 .any (Rows.entropyOrderSpec.pre6 enc Try.prog Try.f5 Rows.entropyOrderRow.domain false) (Rows.entropyOrderSpec.post enc Try.prog Try.f5 false true false false) := by
  refine returnsInHanded_of_change (C := Try.checked) own started (by kernel_rfl) Try.func5
    (ChangeSpec.witness6 (enc := enc) (C := Try.checked) false ⟨#[], #[.slice none 0 0, .int .i64 0], []⟩ 8 (by kernel_rfl) (by kernel_rfl) (by kernel_rfl) (by kernel_rfl)) ?_
  intro W base args ds gs before hval0 hW hcnd _
  have hval : ∀ (j : Nat) t v, Try.f5.params[j]? = some t → args[j]? = some v → Value.okWide Try.prog W .any base t v := hval0
  have hW' := hW
  obtain ⟨p, q, hA0, hV, rfl, hfz, hnd⟩ := hW
  have hA : DataW.TrodAll enc Try.prog W 0 (fun _ => true) true Try.f5.params.toList args.toList ds p := hA0
  rw [Try.params5] at hA hval
  obtain ⟨v0, vs0, d0, ds0, p0, q0, hargs, rfl, rfl, h0, r0⟩ := trodAll_cons hA
  obtain ⟨v1, vs1, d1, ds1, p1, q1, rfl, rfl, rfl, h1, r1⟩ := trodAll_cons r0
  obtain ⟨rfl, rfl, rfl⟩ := trodAll_nil r1
  obtain rfl : args = #[v0, v1] := by cases args; simp_all
  obtain ⟨rfl, rfl⟩ := trodVars_none hV
  obtain ⟨a0, len0, cap0, rfl⟩ := okWide_slice Try.underlying23 (hval 0 23 v0 rfl rfl)
  have k0 := h0
  have lt0 : ∀ x ∈ p0, x.block < W.heap.size := by obtain ⟨m, hm⟩ := k0; exact DataW.trod_lt m _ _ _ hm
  obtain ⟨z0, w0⟩ : ∃ zs, IsRow .i64 W a0 len0 cap0 zs := by
    obtain ⟨fuel, hf⟩ := h0
    rcases open_ints Try.underlying23 Try.underlying3 (by kernel_rfl) hf with ⟨hcs, _⟩ | ⟨x, l, c, zs, hcs, _, hl, hm, hz, _, hcell, hwz⟩
    · simp [Value.cells] at hcs
      obtain ⟨rfl, rfl, rfl⟩ := hcs
      exact ⟨[], .inl ⟨rfl, rfl, rfl, rfl⟩⟩
    · simp [Value.cells] at hcs
      obtain ⟨rfl, rfl, rfl⟩ := hcs
      exact ⟨zs, .inr ⟨_, rfl, hl, hm, by simpa using hz, hcell, hwz⟩⟩
  obtain ⟨a1, rfl, rfl, rfl, w1⟩ := open_int Try.underlying3 (hval 1 3 v1 rfl rfl) h1
  clear hA0 hval0
  refine (walk a0 len0 cap0 z0 a1 W w0 w1).mono fun e W' ⟨he, bel⟩ => ?_
  subst he
  exact ⟨_, rfl, _, _, _, [], _, [], hW', trodAll_mk1 (shut_bool Try.underlying4 _), (trodAll_cons_mk (Below.trod laidOut (by kernel_rfl) (of_decide_eq_true (by kernel_rfl)) k0 bel lt0) (trodAll_cons_mk (shut_int Try.underlying3 w1) trodAll_mk0)), rfl, bel.frame _, fun h => by cases h⟩

theorem over : Rows.entropyOrderRow.holds Try.pinned (OpenSpec.ofChange Rows.entropyOrderSpec) :=
  OpenClaim.holds_of_wide 5 Try.f5 rfl rfl rfl rfl rfl rfl rfl ⟨rfl, rfl, rfl, rfl, rfl⟩ rfl rfl rfl rfl rfl (by kernel_rfl) Try.func5 (by kernel_rfl)
    (of_decide_eq_true (by kernel_rfl)) (by unfold Func.isWrapper; first | (rw [if_pos (by decide +kernel)]; kernel_rfl) | (rw [if_neg (by decide +kernel)]; exact ⟨rfl, rfl⟩))
    (fun os started H enc _ => lifted os started H enc)

/-- ████ THE STATEMENT ████ -/
theorem proved : Rows.EntropyOrderSaid := over
#print axioms proved
end Go.Proofs.Ytidpkkekoldkgaa.entropyOrder
