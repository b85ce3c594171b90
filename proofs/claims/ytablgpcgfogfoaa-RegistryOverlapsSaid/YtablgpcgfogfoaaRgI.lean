import Derived.Test.YtablgpcgfogfoaaRgH
namespace Go.Proofs.Ytablgpcgfogfoaa.Rg
open Go.RowKit
open Go.Proofs.Ytablgpcgfogfoaa.Tp
set_option linter.unusedVariables false

/-- What the reference's Issue gives, as cells. -/
def IOut (nm : ByteArray) (r : Rg) (x : Cr) (w : World) (cs : Array Value) (num er : Int) (w' : World) : Prop :=
  ((crowd (add r x) = true ∧ er = 31 ∧ cs = zG) ∨ (crowd (add r x) = false ∧ er = 0 ∧ ∃ v', cs = gv (add r x) v' ∧ RL w' w.heap.size nm (add r x) v')) ∧ Below w.heap.size w w'
def IForm (nm : ByteArray) (r : Rg) (x : Cr) (w : World) (e : Ending) (w' : World) : Prop :=
  ∃ A1 n1 k1 A2 n2 k2 num er, e = .returned (.tuple #[.agg #[.slice A1 n1 k1, .slice A2 n2 k2], .int .i64 num, .int .i64 er]) ∧ IOut nm r x w #[.slice A1 n1 k1, .slice A2 n2 k2] num er w'
theorem iform {nm : ByteArray} {r : Rg} {x : Cr} {w : World} {e : Ending} {w' : World} (h : IsPost nm r x w e w') : IForm nm r x w e w' := by
  rcases h with ⟨h1, rfl, h3⟩ | ⟨h1, v', rfl, h2, h3⟩
  · exact ⟨_, _, _, _, _, _, _, _, rfl, .inl ⟨h1, rfl, rfl⟩, h3⟩
  · exact ⟨_, _, _, _, _, _, _, _, rfl, .inr ⟨h1, rfl, v', rfl, h2⟩, h3⟩

def nmI : ByteArray := ⟨#[105, 115, 115, 117, 101, 114]⟩
theorem nm_I : Nm nmI := .inr rfl

/-- While the issuers are made. -/
def I1 (T n0 : Nat) (w : World) (k : Nat) (wr : World) : Prop :=
  ∃ (l : List Nat) (A : Option Addr) (c' : Nat), l.length + k = n0 ∧ (∀ i, i < l.length → 1 ≤ l.getD i 0 ∧ l.getD i 0 ≤ 2) ∧ wr.heap[w.heap.size + 1]? = some (.cells #[.slice A l.length c', .slice none 0 0] 26 (0, 0)) ∧
    wr.ownsRow (w.heap.size + 2) 60 2 (.slice A l.length c') l.length (sv nmI l) ∧ wr.heap[w.heap.size]? = some (.cells zG 26 (0, 0)) ∧ w.grownBy wr (some T) ∧ TapeOk wr T

def MrPost (T : Nat) (w : World) (e : Ending) (w' : World) : Prop := ∃ r v, e = .returned (.agg (gv r v)) ∧ Wf r ∧ crowd r = false ∧ 1 ≤ r.s.length ∧ r.s.length ≤ 2 ∧ r.c.length ≤ 7 ∧ RL w' (w.heap.size + 1) nmI r v ∧ w.grownBy w' (some T) ∧ TapeOk w' T

theorem two_row (W : World) (x y : Value) (t : TypeId) : Row (W.alloc (.cells #[x, y] t)) 0 2 (some ⟨W.heap.size, 0, none⟩) 1 [x, y] :=
  ⟨rfl, fun _ => ⟨W.heap.size, 0, rfl, Nat.zero_le _, by simp, fun j u hj => by
    rw [Nat.zero_add, cell_of_row _ _ _ _ _ _ (heap_alloc_new W _)]
    simpa using hj⟩⟩
theorem gd_ext {l : List Nat} {s : Nat} (h : ∀ i, i < l.length → 1 ≤ l.getD i 0 ∧ l.getD i 0 ≤ 2) (h1 : 1 ≤ s) (h2 : s ≤ 2) : ∀ i, i < (l ++ [s]).length → 1 ≤ (l ++ [s]).getD i 0 ∧ (l ++ [s]).getD i 0 ≤ 2 := by
  intro i hi
  simp at hi
  by_cases e : i = l.length
  · subst e
    rw [List.getD_eq_getElem?_getD, List.getElem?_append_right (Nat.le_refl _)]
    simpa using ⟨h1, h2⟩
  · rw [List.getD_eq_getElem?_getD, List.getElem?_append_left (by omega), ← List.getD_eq_getElem?_getD]
    exact h i (by omega)

theorem gc2 {W : World} {g : Nat} {p q : Value} {t : TypeId} (h : W.heap[g]? = some (.cells #[p, q] t (0, 0))) : W.cell? ⟨g, 0, none⟩ = some p ∧ W.cell? ⟨g, 1, none⟩ = some q := by
  refine ⟨?_, ?_⟩ <;> rw [cell_of_row _ _ _ _ _ _ h] <;> rfl

set_option maxRecDepth 100000 in
set_option maxHeartbeats 4000000 in
theorem registry_any (T : Nat) (w : World) (h : TapeOk w T) (hT : T < w.heap.size) :
    Calls Try.prog 10 #[.pointer (some ⟨T, 0, none⟩)] w (MrPost T w) := by
  have R0 := Lib.hid (heap_alloc2_old w (.cells zG 26) (.cells zG 26))
  have R1 := Lib.hid (heap_alloc2_new w (.cells zG 26) (.cells zG 26))
  have HT0 := Lib.hid (tape_new2 (tape_new2 h (.cells zG 26)) (.cells zG 26))
  have HG0 := Lib.hid (gb_alloc2 (gb_alloc2 (gb_row (gb_of_below (Below.refl _ w)) : w.grownBy w (some T)) (.cells zG 26)) (.cells zG 26))
  clear h
  unfold zG at R0 R1 HT0 HG0
  obtain ⟨i0, hi1, hz0, hz1, hz2⟩ := info_parts zinfo60
  have HI := Lib.hid hi1
  have HI0 := Lib.hid hz0
  have HI1 := Lib.hid hz1
  have HI2 := Lib.hid hz2
  clear hi1 hz0 hz1 hz2
  go_enter Try.func10, Try.ntmps10
  go_wp2_with fail
  generalize (w.alloc (.cells #[.slice none 0 0, .slice none 0 0] 26)).alloc (.cells #[.slice none 0 0, .slice none 0 0] 26) = W0 at *
  have l1 := row_lt R1.out
  refine (between_any T 1 2 _ HT0.out (by omega) (by omega) (by omega) (by omega)).mono ?_
  rintro e w1 ⟨r, hr0, hr1, rfl, hg1, ht1⟩
  obtain ⟨n, rfl⟩ : ∃ k : Nat, r = k := ⟨r.toNat, by omega⟩
  have S0 := Lib.hid ((hg1.block _ (row_lt R0.out) (by simp; omega)).trans R0.out)
  have S1 := Lib.hid ((hg1.block _ (row_lt R1.out) (by simp; omega)).trans R1.out)
  have HG1 := Lib.hid (gb_trans HG0.out hg1)
  have HT1 := Lib.hid ht1
  clear hg1 ht1
  go_wp2_with fail
  go_loopw [4] (fun kk wr => ∃ k : Nat, k ≤ 2 ∧ kk = .int .i64 k ∧ I1 T n w k wr) (fun kk _ => (intOf kk).toNat)
  case atStart => exact ⟨n, by omega, rfl, [], none, 0, by simp, fun i h => absurd h (by simp), S1.out, own_nil _ _ _ _, S0.out, HG1.out, HT1.out⟩
  case round =>
    clear R0 R1 HT0 HG0 S0 S1 HG1 HT1
    obtain ⟨k, hk, rfl, l, A, c', hlk, hl, hrow, hown, hz, hgb, htp⟩ := hrel
    have HROW := Lib.hid hrow
    have HOWN := Lib.hid hown
    have HZ := Lib.hid hz
    have HGB := Lib.hid hgb
    have HTP := Lib.hid htp
    have lr := row_lt hrow
    clear hrow hown hz hgb htp
    cases k with
    | succ k =>
      have k0 : (0 : Int) < ((k + 1 : Nat) : Int) := by omega
      have g0 := cell_of_row _ _ 0 _ _ _ HROW.out
      have g0 : wr.cell? ⟨w.heap.size + 1, 0, none⟩ = some (.slice A l.length c') := g0
      have g0' : wr.drew.cell? ⟨w.heap.size + 1, 0, none⟩ = some (.slice A l.length c') := g0
      have HBN := Lib.hid (fun (w' : World) (h : TapeOk w' T) => between_any T 1 2 w' h (by omega) (by omega) (by omega) (by omega))
      have HLL := Lib.hid hl
      clear hl
      go_wp2_with fail
      unfold nmI at HOWN
      go_region_law (first
        | (go_simp; go_at_call 13; (with_reducible refine (HBN.out _ ?_).mono ?_); (first | exact HTP.out | exact tape_below HTP.out (Below.refl _ _).drew); (rintro e w2 ⟨z, a1, a2, rfl, hg2, ht2⟩; obtain ⟨s, rfl⟩ : ∃ s : Nat, z = s := ⟨z.toNat, by omega⟩; have hg2' : wr.grownBy w2 (some T) := (by first | exact gb_undrew hg2 | exact hg2); have hq2 := (hg2'.block _ lr (by simp; omega)).trans HROW.out; have u0 : w2.cell? ⟨w.heap.size + 1, 0, none⟩ = some (.slice A l.length c') := cell_of_row _ _ 0 _ _ _ hq2; have Q2 := Lib.hid hq2; have Z2 := Lib.hid ((hg2'.block _ (row_lt HZ.out) (by simp; omega)).trans HZ.out); have O2 := Lib.hid (own_keepT HOWN.out hg2' (by omega)); have G2 := Lib.hid (gb_trans HGB.out hg2'); have T2 := Lib.hid ht2; have l2 := row_lt hq2; have hbs : w.heap.size + 2 ≤ (w2.alloc (.cells #[.string ⟨#[105, 115, 115, 117, 101, 114]⟩, .int .i64 (s : Int)] 60)).heap.size := (by simp; omega); have hll : l.length + 1 ≤ 100000 := (by omega); have hone : ∀ u ∈ [Value.string ⟨#[105, 115, 115, 117, 101, 114]⟩, Value.int .i64 (s : Int)], u.oneCell' = true := (by simp [Value.oneCell']); clear hg2 hg2' ht2 hq2))
        | ((refine app_step (by rfl) (.tmp 17) (.tmp 21) (w.heap.size + 2) 0 23 60 (by rfl) i0 (.agg #[.string ⟨#[]⟩, .int .i64 0]) 2 24 Try.underlying23 HI.out HI0.out HI1.out HI2.out rfl (by omega) (.slice A l.length c') l.length (sv ⟨#[105, 115, 115, 117, 101, 114]⟩ l) (by rfl) ?_ (some ⟨w2.heap.size, 0, none⟩) 1 1 [.string ⟨#[105, 115, 115, 117, 101, 114]⟩, .int .i64 (s : Int)] (by rfl) ?_ hone hll (by omega) hbs ?_); (exact O2.out.alloc _); (first | exact (two_row w2 _ _ _).drew | exact two_row w2 _ _ _); (intro v' w6 hown hgr0 _; have hgr : (w2.alloc (.cells #[.string ⟨#[105, 115, 115, 117, 101, 114]⟩, .int .i64 (s : Int)] 60)).grownBy w6 (Value.slice A l.length c').ownBlock := (by first | exact hgr0 | exact gb_undrew hgr0); obtain ⟨A', k', rfl⟩ := own_form hown; have hq6 := (far_block O2.out hgr (w.heap.size + 1) (by omega) l2).trans Q2.out; have f6 : w6.frozen? ⟨w.heap.size + 1, 0, none⟩ = false := frozen_of_row _ _ _ _ _ hq6; have u6 : w6.cell? ⟨w.heap.size + 1, 0, none⟩ = some (.slice A l.length c') := cell_of_row _ _ 0 _ _ _ hq6; have Q6 := Lib.hid hq6; have Z6 := Lib.hid ((far_block O2.out hgr w.heap.size (by omega) (by omega)).trans Z2.out); have O6 := Lib.hid hown; have GR := Lib.hid hgr; clear hown hgr hgr0 hq6)))
      all_goals
        have e7 := setCell_eq_setRow w6 (w.heap.size + 1) 0 _ _ _ (.slice A' (l.length + 1) k') Q6.out
        rw [e7]
        have hq7 := setRow_heap _ _ _ ((#[.slice A l.length c', .slice none 0 0] : Array Value).setIfInBounds 0 (.slice A' (l.length + 1) k')) _ _ Q6.out
        have G6 := Lib.hid (gb_own (gb_trans G2.out (gb_row (gb_of_below (box_below w2 _)))) GR.out (fun g e => by have := (O2.out.lt g e).1; omega))
        have T6 := Lib.hid (tape_kept (tape_new2 T2.out _) GR.out (fun g e => by have := (O2.out.lt g e).1; omega))
        have O7 := Lib.hid (own_set O6.out (show w.heap.size + 1 < w.heap.size + 2 by omega) ((#[.slice A l.length c', .slice none 0 0] : Array Value).setIfInBounds 0 (.slice A' (l.length + 1) k')))
        have Z7 := Lib.hid ((setRow_other w6 (w.heap.size + 1) w.heap.size ((#[.slice A l.length c', .slice none 0 0] : Array Value).setIfInBounds 0 (.slice A' (l.length + 1) k')) (by omega)).trans Z6.out)
        have G7 := Lib.hid (gb_far G6.out (show w.heap.size ≤ w.heap.size + 1 by omega) ((#[.slice A l.length c', .slice none 0 0] : Array Value).setIfInBounds 0 (.slice A' (l.length + 1) k')))
        have T7 := Lib.hid (tape_set T6.out (show T < w.heap.size + 1 by omega) ((#[.slice A l.length c', .slice none 0 0] : Array Value).setIfInBounds 0 (.slice A' (l.length + 1) k')))
        have Q7 := Lib.hid hq7
        clear hq7 e7 g0 g0' u0 u6 f6 hone
        generalize w6.setRow (w.heap.size + 1) ((#[.slice A l.length c', .slice none 0 0] : Array Value).setIfInBounds 0 (.slice A' (l.length + 1) k')) = W7 at *
        have HLX := Lib.hid (gd_ext HLL.out (show 1 ≤ s by omega) (show s ≤ 2 by omega))
        have hlx : (l ++ [s]).length = l.length + 1 := by simp
        have HSN := Lib.hid (sv_snoc nmI l s)
        go_wp2_with fail
        exact ⟨⟨k, by omega, by go_num, l ++ [s], A', k', by rw [hlx]; omega, HLX.out, by rw [hlx]; exact Q7.out, by rw [hlx, HSN.out]; exact O7.out, Z7.out, G7.out, T7.out⟩, by simp [intOf]⟩
    | zero =>
      have hr1 : (1 : Int) ≤ (l.length : Int) := by omega
      go_wp2_with fail
      refine (next_any T 8 _ HTP.out (by omega) (by omega)).mono ?_
      rintro e w2 ⟨z, a1, a2, rfl, hg2, ht2⟩
      obtain ⟨m, rfl⟩ : ∃ k : Nat, z = k := ⟨z.toNat, by omega⟩
      have Q2 := Lib.hid ((hg2.block _ lr (by simp; omega)).trans HROW.out)
      have Z2 := Lib.hid ((hg2.block _ (row_lt HZ.out) (by simp; omega)).trans HZ.out)
      have G2 := Lib.hid (gb_trans HGB.out hg2)
      have T2 := Lib.hid ht2
      have O2 := Lib.hid (own_keepT HOWN.out hg2 (by omega))
      clear hg2 ht2
      go_wp2_with fail
      have hwf : Wf ⟨l, []⟩ := ⟨by show l.length ≤ 8; omega, by show 0 ≤ 24; omega, hl, fun j hj => absurd hj (by simp)⟩
      have hrl : RL w2 (w.heap.size + 2) nmI ⟨l, []⟩ ⟨A, c', none, 0⟩ := ⟨row_of_own O2.out, ⟨rfl, fun h => (Nat.lt_irrefl 0 h).elim⟩⟩
      have HWF := Lib.hid hwf
      have HRL := Lib.hid hrl
      clear hwf hrl hl
      go_loopw [5] (fun kk wr => ∃ k : Nat, k ≤ 7 ∧ kk = .int .i64 k ∧ ∃ r v, wr.heap[w.heap.size + 1]? = some (.cells (gv r v) 26 (0, 0)) ∧ RL wr (w.heap.size + 2) nmI r v ∧ Wf r ∧ crowd r = false ∧ (1 ≤ r.s.length ∧ r.s.length ≤ 2) ∧ r.c.length + k ≤ 7 ∧ wr.heap[w.heap.size]? = some (.cells zG 26 (0, 0)) ∧ w.grownBy wr (some T) ∧ TapeOk wr T) (fun kk _ => (intOf kk).toNat)
      case atStart => exact ⟨m, by omega, rfl, ⟨l, []⟩, ⟨A, c', none, 0⟩, Q2.out, HRL.out, HWF.out, rfl, ⟨by show 1 ≤ l.length; omega, by show l.length ≤ 2; omega⟩, by show 0 + m ≤ 7; omega, Z2.out, G2.out, T2.out⟩
      case round =>
        clear Q2 HRL HWF Z2 G2 T2 O2 HROW HOWN HZ HGB HTP
        obtain ⟨k, hk7, rfl, r, v, hq, hrl, hwf, hcr, ⟨hs1, hs2⟩, hlen, hz, hg, ht⟩ := hrel
        have HQ := Lib.hid hq
        have HC := Lib.hid hrl
        have HWF := Lib.hid hwf
        have HCR := Lib.hid hcr
        have HZ := Lib.hid hz
        have HG := Lib.hid hg
        have HTW := Lib.hid ht
        have hql := row_lt hq
        have hsz := hg.size
        clear hq hrl hwf hcr hz hg ht
        by_cases h0 : 0 < k
        · have hd : decide ((0 : Int) < (k : Int)) = true := decide_eq_true (by omega)
          have he : ∀ w', TapeOk w' T → T < w'.heap.size → Calls Try.prog 30 #[.pointer (some ⟨T, 0, none⟩), .agg #[.slice v.A1 r.s.length v.c1, .slice v.A2 r.c.length v.c2]] w' (CrPost T r w') := fun w' ht hl => cred_any T r v w' ht hl hs1 (by omega)
          have ha : ∀ (x : Cr) w', RL w' (w.heap.size + 2) nmI r v → Cw r x → Calls Try.prog 32 #[.agg #[.slice v.A1 r.s.length v.c1, .slice v.A2 r.c.length v.c2], .agg (kc x)] w' (IForm nmI r x w') := fun x w' hc hg => (refissue_any (w.heap.size + 2) nmI r v x w' hc nm_I HWF.out hg HCR.out (by omega)).mono fun _ _ hp => iform hp
          have HE := Lib.hid he
          have HA := Lib.hid ha
          have hTr : T < wr.heap.size := by omega
          have hk : ∀ w', wr.grownBy w' (some T) → TapeOk w' T → (w'.cell? ⟨w.heap.size + 1, 0, none⟩ = some (.slice v.A1 r.s.length v.c1) ∧ w'.cell? ⟨w.heap.size + 1, 1, none⟩ = some (.slice v.A2 r.c.length v.c2) ∧ wr.grownBy w' (some T) ∧ TapeOk w' T) := fun w' hg ht => by
            obtain ⟨k0, k1⟩ := gvCells ((hg.block (w.heap.size + 1) hql (by simp; omega)).trans HQ.out)
            exact ⟨k0, k1, hg, ht⟩
          have HK := Lib.hid hk
          have gd : wr.grownBy wr.drew (some T) := gb_drewN wr 1 _
          have td : TapeOk wr.drew T := HTW.out
          have ga0 : wr.grownBy (wr.alloc (.cells zG 26)).drew (some T) := (gb_trans (gb_row (gb_of_below (box_below wr (.cells zG 26)))) (gb_drewN _ 1 _))
          have ta0 : TapeOk (wr.alloc (.cells zG 26)).drew T := tape_new2 HTW.out _
          clear hk he ha
          go_wp2_with fail
          go_region_held3 (fun w' => w'.cell? ⟨w.heap.size + 1, 0, none⟩ = some (.slice v.A1 r.s.length v.c1) ∧ w'.cell? ⟨w.heap.size + 1, 1, none⟩ = some (.slice v.A2 r.c.length v.c2) ∧ wr.grownBy w' (some T) ∧ TapeOk w' T)
            (first | (with_reducible assumption) | (with_reducible exact HK.out _ gd td) | (with_reducible exact HK.out _ ga ta) | (with_reducible exact HK.out _ gb tb) | (with_reducible exact HK.out _ (gb_alloc2 ga _) (tape_new2 ta _)) | (with_reducible exact HK.out _ (gb_alloc2 gb _) (tape_new2 tb _)) | (with_reducible exact HK.out _ (gb_far1 (gb_far1 gb (Nat.le_refl _)) (Nat.le_refl _)) (tape_far1 (tape_far1 tb hTr) hTr)) | (with_reducible exact HK.out _ (gb_far1 (gb_far1 gb (World.grownBy.size ga)) (World.grownBy.size ga)) (tape_far1 (tape_far1 tb hTa) hTa)) | exact HK.out _ ga0 ta0)
            (first
              | (go_at_call 30; (with_reducible refine (HE.out _ ?_ ?_).mono ?_); (go_split_ands; with_reducible assumption); (go_split_ands; exact Nat.lt_of_lt_of_le hTr (World.grownBy.size (by with_reducible assumption))); rintro e wa ⟨x, hgood, rfl, hga, hta⟩; go_split_ands; have ga : wr.grownBy wa (some T) := gb_trans (by with_reducible assumption) hga; have ta := hta; have hTa : T < wa.heap.size := Nat.lt_of_lt_of_le hTr ga.size; have XG := Lib.hid hgood; have GA := Lib.hid ga; (first | (have NA := Lib.hid (show wa.heap[wr.heap.size]? = some (.cells zG 26 (0, 0)) from (hga.block wr.heap.size (by simp) (by simp; omega)).trans (heap_alloc_new wr (.cells zG 26)))) | skip); clear hga hta hgood)
              | (go_at_call 32; (with_reducible refine (HA.out x _ ?_ ?_).mono ?_); (go_split_ands; exact HC.out.grown (row := some T) (by with_reducible assumption) (fun g e => by cases e; omega)); (exact XG.out); rintro e wb ⟨B1, n1, d1, B2, n2, d2, num, er, rfl, hout⟩; go_split_ands; have gb : wr.grownBy wb (some T) := gb_trans (by with_reducible assumption) (gb_row (gb_of_below hout.2)); have tb : TapeOk wb T := tape_below (by with_reducible assumption) hout.2; have HOUT := Lib.hid hout; (first | (have NB := Lib.hid (show wb.heap[wa.heap.size]? = some (.cells zG 26 (0, 0)) from (hout.2.block wa.heap.size (by simp)).trans (heap_alloc_new wa (.cells zG 26))); obtain ⟨y0, y1, y2, y3⟩ := zgCells NB.out) | (have NB := Lib.hid (show wb.heap[wr.heap.size]? = some (.cells zG 26 (0, 0)) from (hout.2.block wr.heap.size (row_lt NA.out)).trans NA.out); obtain ⟨y0, y1, y2, y3⟩ := zgCells NB.out) | skip); clear hout))
          ·
            obtain ⟨W6, hW6⟩ : ∃ W6, wb.alloc (.cells #[.slice B1 n1 d1, .slice B2 n2 d2] 26) = W6 := ⟨_, rfl⟩
            have gW : wr.grownBy W6 (some T) := by rw [← hW6]; exact gb_alloc2 gb _
            have tW : TapeOk W6 T := by rw [← hW6]; exact tape_new2 tb _
            have fN : W6.heap[wb.heap.size]? = some (.cells #[.slice B1 n1 d1, .slice B2 n2 d2] 26 (0, 0)) := by rw [← hW6]; exact heap_alloc_new wb _
            have fo : ∀ v' B0, w.heap.size + 2 ≤ B0 → RL wb B0 nmI (add r x) v' → RL W6 (w.heap.size + 2) nmI (add r x) v' := fun v' B0 h0 h2 => by rw [← hW6]; exact (h2.below (box_below _ _)).base h0
            have hB0 : w.heap.size + 2 ≤ wa.heap.size := by have := ga.size; omega
            rw [hW6]
            have FO := Lib.hid fo
            have HB0 := Lib.hid hB0
            clear hB0
            have GW := Lib.hid gW
            have TW := Lib.hid tW
            have fq := Lib.hid ((gW.block (w.heap.size + 1) hql (by simp; omega)).trans HQ.out)
            have fz := Lib.hid ((gW.block w.heap.size (row_lt HZ.out) (by simp; omega)).trans HZ.out)
            clear fo gW tW hW6 gd td ga0 ta0
            go_split_ands
            obtain ⟨u0, u1⟩ := gc2 fN
            obtain ⟨q0, q1⟩ := gvCells fq.out
            have qf : ∀ j, W6.frozen? ⟨w.heap.size + 1, j, none⟩ = false := fun j => frozen_of_row _ _ _ _ _ fq.out
            clear fN
            rcases HOUT.out.1 with ⟨hcr2, rfl, hcs⟩ | ⟨hcr2, rfl, v', hcs, hrl2⟩
            · clear hcs hcr2
              go_wp2_with fail
              exact ⟨⟨k - 1, by omega, congrArg (Value.int .i64) (by omega), r, v, fq.out, HC.out.grown GW.out (fun g e => by cases e; omega), HWF.out, HCR.out, ⟨hs1, hs2⟩, by omega, fz.out, gb_trans HG.out GW.out, TW.out⟩, by simp [intOf]; omega⟩
            · have HCS := Lib.hid hcs
              have HCX := Lib.hid (FO.out v' _ HB0.out hrl2)
              have HCR2 := Lib.hid hcr2
              have HWX := Lib.hid (Wf.add HWF.out XG.out (by omega))
              clear hcs hrl2 hcr2
              go_wp2_with fail
              rw [set2row (g := w.heap.size + 1) fq.out rfl, show (#[.slice B1 n1 d1, .slice B2 n2 d2] : Array Value) = gv (add r x) v' from HCS.out]
              exact ⟨⟨k - 1, by omega, congrArg (Value.int .i64) (by omega), add r x, v', setRow_heap _ _ _ _ _ _ fq.out, HCX.out.set (show w.heap.size + 1 < w.heap.size + 2 by omega) _, HWX.out, HCR2.out, ⟨hs1, hs2⟩, by rw [add_len]; omega, (setRow_other _ _ _ _ (by omega)).trans fz.out, gb_far (gb_trans HG.out GW.out) (by omega) _, tape_set TW.out (by omega) _⟩, by simp [intOf]; omega⟩
          ·
            rw [set2row NB.out rfl]
            obtain ⟨W6, hW6⟩ : ∃ W6, wb.setRow wa.heap.size #[.slice B1 n1 d1, .slice B2 n2 d2] = W6 := ⟨_, rfl⟩
            have gW : wr.grownBy W6 (some T) := by rw [← hW6]; exact gb_far gb ga.size _
            have tW : TapeOk W6 T := by rw [← hW6]; exact tape_set tb hTa _
            have fN : W6.heap[wa.heap.size]? = some (.cells #[.slice B1 n1 d1, .slice B2 n2 d2] 26 (0, 0)) := by rw [← hW6]; exact setRow_heap _ _ _ _ _ _ NB.out
            have hB0 : w.heap.size + 2 ≤ wa.heap.size + 1 ∧ wa.heap.size < (wa.alloc (.cells zG 26)).heap.size := ⟨by have := ga.size; omega, by simp⟩
            have fo : ∀ v' B0, (w.heap.size + 2 ≤ wa.heap.size + 1 ∧ wa.heap.size < B0) → RL wb B0 nmI (add r x) v' → RL W6 (w.heap.size + 2) nmI (add r x) v' := fun v' B0 h0 h2 => by rw [← hW6]; exact (h2.set h0.2 _).base (by omega)
            rw [hW6]
            have FO := Lib.hid fo
            have HB0 := Lib.hid hB0
            clear hB0
            have GW := Lib.hid gW
            have TW := Lib.hid tW
            have fq := Lib.hid ((gW.block (w.heap.size + 1) hql (by simp; omega)).trans HQ.out)
            have fz := Lib.hid ((gW.block w.heap.size (row_lt HZ.out) (by simp; omega)).trans HZ.out)
            clear fo gW tW hW6 gd td ga0 ta0
            go_split_ands
            obtain ⟨u0, u1⟩ := gc2 fN
            obtain ⟨q0, q1⟩ := gvCells fq.out
            have qf : ∀ j, W6.frozen? ⟨w.heap.size + 1, j, none⟩ = false := fun j => frozen_of_row _ _ _ _ _ fq.out
            clear fN
            rcases HOUT.out.1 with ⟨hcr2, rfl, hcs⟩ | ⟨hcr2, rfl, v', hcs, hrl2⟩
            · clear hcs hcr2
              go_wp2_with fail
              exact ⟨⟨k - 1, by omega, congrArg (Value.int .i64) (by omega), r, v, fq.out, HC.out.grown GW.out (fun g e => by cases e; omega), HWF.out, HCR.out, ⟨hs1, hs2⟩, by omega, fz.out, gb_trans HG.out GW.out, TW.out⟩, by simp [intOf]; omega⟩
            · have HCS := Lib.hid hcs
              have HCX := Lib.hid (FO.out v' _ HB0.out hrl2)
              have HCR2 := Lib.hid hcr2
              have HWX := Lib.hid (Wf.add HWF.out XG.out (by omega))
              clear hcs hrl2 hcr2
              go_wp2_with fail
              rw [set2row (g := w.heap.size + 1) fq.out rfl, show (#[.slice B1 n1 d1, .slice B2 n2 d2] : Array Value) = gv (add r x) v' from HCS.out]
              exact ⟨⟨k - 1, by omega, congrArg (Value.int .i64) (by omega), add r x, v', setRow_heap _ _ _ _ _ _ fq.out, HCX.out.set (show w.heap.size + 1 < w.heap.size + 2 by omega) _, HWX.out, HCR2.out, ⟨hs1, hs2⟩, by rw [add_len]; omega, (setRow_other _ _ _ _ (by omega)).trans fz.out, gb_far (gb_trans HG.out GW.out) (by omega) _, tape_set TW.out (by omega) _⟩, by simp [intOf]; omega⟩
          ·
            rw [set2row NB.out rfl]
            obtain ⟨W6, hW6⟩ : ∃ W6, wb.setRow wr.heap.size #[.slice B1 n1 d1, .slice B2 n2 d2] = W6 := ⟨_, rfl⟩
            have gW : wr.grownBy W6 (some T) := by rw [← hW6]; exact gb_far gb (Nat.le_refl _) _
            have tW : TapeOk W6 T := by rw [← hW6]; exact tape_set tb hTr _
            have fN : W6.heap[wr.heap.size]? = some (.cells #[.slice B1 n1 d1, .slice B2 n2 d2] 26 (0, 0)) := by rw [← hW6]; exact setRow_heap _ _ _ _ _ _ NB.out
            have hB0 : w.heap.size + 2 ≤ wr.heap.size + 1 ∧ wr.heap.size < wa.heap.size := ⟨by omega, by have := row_lt NA.out; exact this⟩
            have fo : ∀ v' B0, (w.heap.size + 2 ≤ wr.heap.size + 1 ∧ wr.heap.size < B0) → RL wb B0 nmI (add r x) v' → RL W6 (w.heap.size + 2) nmI (add r x) v' := fun v' B0 h0 h2 => by rw [← hW6]; exact (h2.set h0.2 _).base (by omega)
            rw [hW6]
            have FO := Lib.hid fo
            have HB0 := Lib.hid hB0
            clear hB0
            have GW := Lib.hid gW
            have TW := Lib.hid tW
            have fq := Lib.hid ((gW.block (w.heap.size + 1) hql (by simp; omega)).trans HQ.out)
            have fz := Lib.hid ((gW.block w.heap.size (row_lt HZ.out) (by simp; omega)).trans HZ.out)
            clear fo gW tW hW6 gd td ga0 ta0
            go_split_ands
            obtain ⟨u0, u1⟩ := gc2 fN
            obtain ⟨q0, q1⟩ := gvCells fq.out
            have qf : ∀ j, W6.frozen? ⟨w.heap.size + 1, j, none⟩ = false := fun j => frozen_of_row _ _ _ _ _ fq.out
            clear fN
            rcases HOUT.out.1 with ⟨hcr2, rfl, hcs⟩ | ⟨hcr2, rfl, v', hcs, hrl2⟩
            · clear hcs hcr2
              go_wp2_with fail
              exact ⟨⟨k - 1, by omega, congrArg (Value.int .i64) (by omega), r, v, fq.out, HC.out.grown GW.out (fun g e => by cases e; omega), HWF.out, HCR.out, ⟨hs1, hs2⟩, by omega, fz.out, gb_trans HG.out GW.out, TW.out⟩, by simp [intOf]; omega⟩
            · have HCS := Lib.hid hcs
              have HCX := Lib.hid (FO.out v' _ HB0.out hrl2)
              have HCR2 := Lib.hid hcr2
              have HWX := Lib.hid (Wf.add HWF.out XG.out (by omega))
              clear hcs hrl2 hcr2
              go_wp2_with fail
              rw [set2row (g := w.heap.size + 1) fq.out rfl, show (#[.slice B1 n1 d1, .slice B2 n2 d2] : Array Value) = gv (add r x) v' from HCS.out]
              exact ⟨⟨k - 1, by omega, congrArg (Value.int .i64) (by omega), add r x, v', setRow_heap _ _ _ _ _ _ fq.out, HCX.out.set (show w.heap.size + 1 < w.heap.size + 2 by omega) _, HWX.out, HCR2.out, ⟨hs1, hs2⟩, by rw [add_len]; omega, (setRow_other _ _ _ _ (by omega)).trans fz.out, gb_far (gb_trans HG.out GW.out) (by omega) _, tape_set TW.out (by omega) _⟩, by simp [intOf]; omega⟩
        · obtain rfl : k = 0 := by omega
          obtain ⟨q0, q1⟩ := gvCells HQ.out
          obtain ⟨z0, z1, z2, z3⟩ := zgCells HZ.out
          go_wp2_with fail
          rw [set2row HZ.out rfl]
          refine bodyPost_ret (v := .agg (gv r v)) (results_cell_row rfl _ _ w.heap.size 26 (gv r v) (0, 0) _ rfl (setRow_heap _ _ _ _ _ _ HZ.out) Try.underlying26 rfl (info26 _ _)) rfl ⟨r, v, rfl, HWF.out, HCR.out, hs1, hs2, by omega, (HC.out.set (show w.heap.size < w.heap.size + 2 by omega) _).base (by omega), gb_far HG.out (Nat.le_refl _) _, tape_set HTW.out hT _⟩

end Go.Proofs.Ytablgpcgfogfoaa.Rg
