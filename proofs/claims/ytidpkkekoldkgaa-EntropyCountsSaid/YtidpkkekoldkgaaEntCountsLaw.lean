/- For every tape and every two integers, EntropyCounts returns true: the counts of bytes add up to their number, and bytes put together have the counts of both. No condition. -/
import Derived.Test.YtidpkkekoldkgaaFrame
import Derived.Test.YtidpkkekoldkgaaEntMore
namespace Go.Proofs.Ytidpkkekoldkgaa.entropyCounts
open Go.ChangeShapes Go.WideShapes Go.ChangeAt Go.RowKit
open Go.ChangeMaps (open_string shut_string)
open Go.Proofs.Ytidpkkekoldkgaa.Tp Go.Proofs.Ytidpkkekoldkgaa.Ent
set_option linter.unusedVariables false

theorem cnt_app (a b : List Nat) (i : Nat) : cnt (a ++ b) i = cnt a i + cnt b i := by
  unfold cnt
  rw [List.count_append]

/-- The sum of the first k counts. -/
def sumTo (bs : List Nat) : Nat → Nat
  | 0 => 0
  | k + 1 => sumTo bs k + cnt bs k

theorem sumTo_cons (b : Nat) (bs : List Nat) : ∀ k, sumTo (b :: bs) k = sumTo bs k + if b < k then 1 else 0
  | 0 => by simp [sumTo]
  | k + 1 => by
    have ih := sumTo_cons b bs k
    have e : cnt (b :: bs) k = cnt bs k + if b = k then 1 else 0 := by
      unfold cnt
      rw [List.count_cons]
      by_cases h : b = k <;> simp [h]
    simp only [sumTo]
    rw [ih, e]
    by_cases h : b = k
    · subst h
      simp
      omega
    · have : (b < k + 1) ↔ (b < k) := by omega
      simp only [this, if_neg h]
      omega

theorem sumTo_all (bs : List Nat) (h : ∀ b ∈ bs, b ≤ 255) : sumTo bs 256 = bs.length := by
  induction bs with
  | nil =>
    have e : ∀ k, sumTo [] k = 0 := by
      intro k
      induction k with
      | zero => rfl
      | succ k ih => simp [sumTo, ih, cnt]
    rw [e]
    rfl
  | cons b bs ih =>
    have h1 := h b (by simp)
    rw [sumTo_cons, ih (fun x hx => h x (by simp [hx])), if_pos (by omega)]
    simp

theorem sumTo_le (bs : List Nat) : ∀ k, sumTo bs k ≤ bs.length * k
  | 0 => by simp [sumTo]
  | k + 1 => by
    have ih := sumTo_le bs k
    have hc := cnt_le bs k
    simp only [sumTo]
    rw [Nat.mul_add, Nat.mul_one]
    omega

/-- What the law's loop stands on: the three tables, and the world behind the makers. -/
structure Tabs (w : World) (g1 g2 g3 : Nat) (a b : List Nat) (wr : World) : Prop where
  x : wr.heap[g1]? = some (.cells (tab a) 33 (0, 0))
  y : wr.heap[g2]? = some (.cells (tab b) 33 (0, 0))
  z : wr.heap[g3]? = some (.cells (tab (a ++ b)) 33 (0, 0))
  bl : Below w.heap.size w wr

theorem new3_1 (w : World) (x1 x2 x3 : Array Value) : (((w.alloc (.cells x1 33)).alloc (.cells x2 33)).alloc (.cells x3 33)).heap[w.heap.size]? = some (.cells x1 33 (0, 0)) := by
  rw [Below.heap_alloc _ _ _ (by simp; omega)]
  exact heap_alloc2_old _ _ _
theorem new3_2 (w : World) (x1 x2 x3 : Array Value) : (((w.alloc (.cells x1 33)).alloc (.cells x2 33)).alloc (.cells x3 33)).heap[w.heap.size + 1]? = some (.cells x2 33 (0, 0)) := by
  rw [Below.heap_alloc _ _ _ (by simp)]
  exact heap_alloc2_new _ _ _
theorem new3_3 (w : World) (x1 x2 x3 : Array Value) : (((w.alloc (.cells x1 33)).alloc (.cells x2 33)).alloc (.cells x3 33)).heap[w.heap.size + 2]? = some (.cells x3 33 (0, 0)) := by
  have := heap_alloc_new ((w.alloc (.cells x1 33)).alloc (.cells x2 33)) (.cells x3 33)
  simpa using this

theorem tabs_new {w0 w : World} {a b : List Nat} {x1 x2 x3 : Array Value} (hb : Below w0.heap.size w0 w) :
    Tabs w0 w.heap.size (w.heap.size + 1) (w.heap.size + 1 + 1) a b ((((((w.alloc (.cells x1 33)).alloc (.cells x2 33)).alloc (.cells x3 33)).setRow w.heap.size (tab a)).setRow (w.heap.size + 1) (tab b)).setRow (w.heap.size + 2) (tab (a ++ b))) := by
  have hsz := hb.size
  refine ⟨?_, ?_, ?_, ?_⟩
  · rw [setRow_other _ _ _ _ (by omega), setRow_other _ _ _ _ (by omega)]
    exact setRow_heap _ _ _ _ _ _ (new3_1 _ _ _ _)
  · rw [setRow_other _ _ _ _ (by omega)]
    refine setRow_heap _ _ x2 _ _ (0, 0) ?_
    rw [setRow_other _ _ _ _ (by omega)]
    exact new3_2 _ _ _ _
  · refine setRow_heap _ _ x3 _ _ (0, 0) ?_
    rw [setRow_other _ _ _ _ (by omega), setRow_other _ _ _ _ (by omega)]
    exact new3_3 _ _ _ _
  · exact below_setRow (below_setRow (below_setRow (((hb.alloc hsz _).alloc (by simp; omega) _).alloc (by simp; omega) _) hsz _) (by omega) _) (by omega) _

theorem own_ne {w : World} {base n g : Nat} {v : Value} {xs : List Value} (h : w.ownsRow base 5 1 v n xs) (hg : w.heap.size ≤ g) : v.ownBlock = none ∨ v.ownBlock ≠ some g := by
  cases hv : v.ownBlock with
  | none => exact .inl rfl
  | some k =>
    refine .inr (fun e => ?_)
    have := (h.lt k hv).2
    cases e
    omega

theorem sums_bd (a b : List Nat) (k : Nat) (h : (a ++ b).length ≤ 62) (hk : k ≤ 256) : sumTo (a ++ b) k ≤ 15872 := by
  have h1 := sumTo_le (a ++ b) k
  have h2 : (a ++ b).length * k ≤ 62 * 256 := Nat.mul_le_mul h hk
  omega

set_option maxRecDepth 100000 in
set_option maxHeartbeats 1000000 in
theorem walk (a0 : Option Addr) (len0 cap0 : Nat) (z0 : List Int) (a1 : Int) (a2 : Int) (w : World) (w0 : IsRow .i64 w a0 len0 cap0 z0) (w1 : (Lit.int .i64 a1).wf = true) (w2 : (Lit.int .i64 a2).wf = true) :
    Calls Try.prog 7 #[.slice a0 len0 cap0, .int .i64 a1, .int .i64 a2] w fun e w' => e = .returned (.bool true) ∧ Below w.heap.size w w' := by
  have htp := tape_new w0
  clear w0 w1 w2
  have hn := and_31 a1
  have hm := and_31 a2
  obtain ⟨N, hN⟩ : ∃ N : Nat, a1 % 32 = (N : Int) := ⟨(a1 % 32).toNat, by omega⟩
  obtain ⟨M, hM⟩ : ∃ M : Nat, a2 % 32 = (M : Int) := ⟨(a2 % 32).toNat, by omega⟩
  have hN31 : N ≤ 31 := by omega
  have hM31 : M ≤ 31 := by omega
  rw [hN] at hn
  rw [hM] at hm
  clear hN hM
  have hz := zero33
  have HTP := Lib.hid htp
  clear htp
  go_enter Try.func7, Try.ntmps7
  go_wp2_with fail
  refine (bytes_any w.heap.size N _ HTP.out (by simp) (by omega)).mono ?_
  rintro e wA ⟨vA, rfl, bsA, hlA, hbA, hrowA, hgA, htA⟩
  have hszA := hgA.size
  simp at hszA
  have HLA := Lib.hid hlA
  have HBA := Lib.hid hbA
  have HRA := Lib.hid hrowA
  have HGA := Lib.hid hgA
  have HTA := Lib.hid htA
  clear hlA hbA hrowA hgA htA
  go_wp2_with fail
  refine (bytes_any w.heap.size M _ HTA.out (by omega) (by omega)).mono ?_
  rintro e wB ⟨vB, rfl, bsB, hlB, hbB, hrowB, hgB, htB⟩
  have hszB := hgB.size
  obtain ⟨A, cA, rfl, _⟩ := row_form HRA.out
  obtain ⟨B, cB, rfl, _⟩ := row_form hrowB
  have rowA := row_next (w := w.alloc (.cells #[.slice a0 len0 cap0, .int .i64 0] 30)) (by simp) HRA.out hgB
  have hbl : Below w.heap.size w wB := (((Below.refl _ w).alloc (Nat.le_refl _) _).grown HGA.out (by simp) (fun k e => by cases e; omega)).grown hgB (by omega) (fun k e => by cases e; omega)
  have byA := bytes_of_row rowA HBA.out (by omega)
  have byB := bytes_of_row hrowB hbB (by omega)
  have HLB := Lib.hid hlB
  have HBB := Lib.hid hbB
  have HRB := Lib.hid hrowB
  have HRA2 := Lib.hid rowA
  have HBL := Lib.hid hbl
  have HYA := Lib.hid byA
  have HYB := Lib.hid byB
  clear hlB hbB hrowB hgB htB rowA hbl byA byB HTA HGA HRA
  go_wp2_with fail
  refine (counts_some A N cA bsA _ HYA.out (by omega)).mono ?_
  rintro e w1 ⟨rfl, hb1⟩
  have hs1 := hb1.size
  have HB1 := Lib.hid hb1
  clear hb1
  go_wp2_with fail
  refine (counts_some B M cB bsB _ (HYB.out.below HB1.out) (by omega)).mono ?_
  rintro e w2 ⟨rfl, hb2⟩
  have hs2 := hb2.size
  have HB2 := Lib.hid hb2
  have rowA := row_below (row_below HRA2.out HB1.out) hb2
  have rowB := row_below (row_below HRB.out HB1.out) hb2
  have HRA3 := Lib.hid rowA
  have HRB3 := Lib.hid rowB
  clear hb2 rowA rowB
  go_wp2_with (first
    | (at_builtin; refine append_src rfl (.tmp 31) (.tmp 32) rfl w2.heap.size _ (.slice (some ⟨w2.heap.size, 0, none⟩) 0 0) (.slice A N cA) 0 N [] (u8s bsA) rfl rfl (World.ownsRow_lit _ #[] 0 (Nat.le_refl _) (by unfold maxLen; omega) rfl) (HRA3.out.alloc _) (u8s_one _) (by omega) (by simp) ?_; intro v3 w3 hown3 hgr3; have HO3 := Lib.hid hown3; have HG3 := Lib.hid hgr3; clear hown3 hgr3)
    | (at_builtin; refine append_src rfl (.tmp 33) (.tmp 34) rfl w2.heap.size _ v3 (.slice B M cB) (0 + N) M ([] ++ u8s bsA) (u8s bsB) rfl rfl HO3.out ((HRB3.out.alloc _).kept HG3.out (own_ne HRB3.out (Nat.le_refl _))) (u8s_one _) (by omega) (by have := HG3.out.size; simp at this; omega) ?_; intro v4 w4 hown4 hgr4; have HO4 := Lib.hid hown4; have HG4 := Lib.hid hgr4; clear hown4 hgr4))
  have hrow4 : w4.ownsRow w2.heap.size 5 1 v4 (N + M) (u8s (bsA ++ bsB)) := by simpa [u8s] using HO4.out
  obtain ⟨C, c4, rfl, _⟩ := row_form hrow4
  have hlen : (bsA ++ bsB).length = N + M := by simp [HLA.out, HLB.out]
  have hbb : ∀ x ∈ bsA ++ bsB, x ≤ 255 := fun x hx => (List.mem_append.1 hx).elim (HBA.out x) (HBB.out x)
  have byC := bytes_of_row hrow4 hbb (by omega)
  have hs3 := HG3.out.size
  have hs4 := HG4.out.size
  simp at hs3
  have hbl4 : Below w.heap.size w w4 := by
    have b2 : Below w.heap.size w w2 := (HBL.out.trans (HB1.out.mono HBL.out.size)).trans (HB2.out.mono (by have := HBL.out.size; omega))
    have z2 := b2.size
    have b3 := (b2.alloc z2 (.cells #[] 5)).grown HG3.out (by simp; omega) (fun k e => by simp [Value.ownBlock] at e; omega)
    exact b3.grown HG4.out b3.size (fun k e => by have := (HO3.out.lt k e).1; omega)
  have b24 : Below w2.heap.size w2 w4 := (((Below.refl _ w2).alloc (Nat.le_refl _) (.cells #[] 5)).grown HG3.out (by simp) (fun k e => by simp [Value.ownBlock] at e; omega)).grown HG4.out (by omega) (fun k e => (HO3.out.lt k e).1)
  have hya4 : Bytes w4 A N bsA := ((HYA.out.below HB1.out).below HB2.out).below b24
  have HYA4 := Lib.hid hya4
  clear b24 hya4
  have HLN := Lib.hid hlen
  have HBB4 := Lib.hid hbb
  have HYC := Lib.hid byC
  have HBL4 := Lib.hid hbl4
  clear hrow4 hlen hbb byC hbl4 HO3 HO4 HG3 HG4 HRA3 HRB3 HRA2 HRB HB1 HB2 HBL
  refine (counts_some C (N + M) c4 (bsA ++ bsB) _ HYC.out (by omega)).mono ?_
  rintro e w5 ⟨rfl, hb5⟩
  have hb5w := HBL4.out.trans (hb5.mono HBL4.out.size)
  have hya5 := HYA4.out.below hb5
  have HYA5 := Lib.hid hya5
  clear hya5
  have HB5 := Lib.hid hb5
  have HB5W := Lib.hid hb5w
  clear hb5 hb5w HBL4 HYC
  go_wp2_with (first
    | (with_reducible refine wpList_store_row rfl 33 _ _ rfl w5.heap.size (tab bsA) rfl rfl 33 (tab []) (new3_1 w5 (tab []) (tab []) (tab [])) (info33 _) (by rw [tab_size, tab_size]) (tab_one _) ?_)
    | (with_reducible refine wpList_store_row rfl 33 _ _ rfl (w5.heap.size + 1) (tab bsB) rfl rfl 33 (tab []) (by rw [setRow_other _ _ _ _ (by omega)]; exact new3_2 w5 (tab []) (tab []) (tab [])) (info33 _) (by rw [tab_size, tab_size]) (tab_one _) ?_)
    | (with_reducible refine wpList_store_row rfl 33 _ _ rfl (w5.heap.size + 2) (tab (bsA ++ bsB)) rfl rfl 33 (tab []) (by rw [setRow_other _ _ _ _ (by omega), setRow_other _ _ _ _ (by omega)]; exact new3_3 w5 (tab []) (tab []) (tab [])) (info33 _) (by rw [tab_size, tab_size]) (tab_one _) ?_))
  have htabs := tabs_new (a := bsA) (b := bsB) (x1 := tab []) (x2 := tab []) (x3 := tab []) HB5W.out
  have hya5 : Bytes w5 A N bsA := HYA5.out
  have hya6 : Bytes ((((((w5.alloc (.cells (tab []) 33)).alloc (.cells (tab []) 33)).alloc (.cells (tab []) 33)).setRow w5.heap.size (tab bsA)).setRow (w5.heap.size + 1) (tab bsB)).setRow (w5.heap.size + 2) (tab (bsA ++ bsB))) A N bsA :=
    hya5.below (below_setRow (below_setRow (below_setRow ((((Below.refl _ w5).alloc (Nat.le_refl _) _).alloc (by simp) _).alloc (by simp; omega) _) (Nat.le_refl _) _) (by omega) _) (by omega) _)
  clear hya5
  generalize (((((w5.alloc (.cells (tab []) 33)).alloc (.cells (tab []) 33)).alloc (.cells (tab []) 33)).setRow w5.heap.size (tab bsA)).setRow (w5.heap.size + 1) (tab bsB)).setRow (w5.heap.size + 2) (tab (bsA ++ bsB)) = w6 at *
  generalize w5.heap.size = G at *
  have HT := Lib.hid htabs
  have HYA6 := Lib.hid hya6
  clear hya6
  clear htabs
  have haw := awake_any
  have HAW := Lib.hid haw
  clear haw
  have hla : bsA.length ≤ 65536 := by rw [HLA.out]; omega
  have hsub : ∀ w', Below w.heap.size w w' → w.heap.size ≤ w'.heap.size := fun w' hb => hb.size
  have HSUB := Lib.hid hsub
  clear hsub
  have hds : ∀ w', Bytes w' A N bsA → Calls Try.prog 22 #[.slice A N cA] w' fun e w'' => e = .returned (.int .i64 (ds bsA 256 : Nat)) ∧ Below w'.heap.size w' w'' := by
    intro w' hb
    have := distinct_any A N cA bsA w' hb
    rwa [few_id hla] at this
  have HDS := Lib.hid hds
  clear hds hla
  have hall := sumTo_all (bsA ++ bsB) HBB4.out
  rw [HLN.out] at hall
  have HALL := Lib.hid hall
  clear hall
  have hlen : (bsA ++ bsB).length ≤ 62 := by rw [HLN.out]; omega
  have HLEN := Lib.hid hlen
  clear hlen
  go_loopw [13, 14, 15] (fun s t i wr => ∃ k : Nat, k ≤ 256 ∧ i = .int .i64 k ∧ s = .int .i64 (sumTo (bsA ++ bsB) k : Nat) ∧ t = .int .i64 (ds bsA k : Nat) ∧ Tabs w G (G + 1) (G + 1 + 1) bsA bsB wr ∧ Bytes wr A N bsA) (fun _ _ i _ => 256 - (intOf i).toNat)
  case atStart => exact ⟨0, by omega, rfl, rfl, rfl, HT.out, HYA6.out⟩
  case round =>
    obtain ⟨k, hk, rfl, rfl, rfl, ht, hby⟩ := hrel
    have HTT := Lib.hid ht
    have HBY := Lib.hid hby
    clear ht hby
    by_cases hlt : k < 256
    · have c1 := cell_tab HTT.out.x k hlt
      have c2 := cell_tab HTT.out.y k hlt
      have c3 := cell_tab HTT.out.z k hlt
      rw [cnt_app] at c3
      have hbd := sums_bd bsA bsB (k + 1) HLEN.out (by omega)
      have hsu : sumTo (bsA ++ bsB) (k + 1) = sumTo (bsA ++ bsB) k + (cnt bsA k + cnt bsB k) := by rw [← cnt_app]; rfl
      have hdl := ds_le bsA k
      rw [hsu] at hbd
      have HSU := Lib.hid hsu
      have hdsu : ds bsA (k + 1) = ds bsA k + if 0 < cnt bsA k then 1 else 0 := rfl
      have HDSU := Lib.hid hdsu
      clear hsu hdsu
      generalize sumTo (bsA ++ bsB) k = S at *
      generalize ds bsA k = D at *
      generalize cnt bsA k = X at *
      generalize cnt bsB k = Y at *
      have e1 : IntKind.i64.wrap ((X : Int) + (Y : Int)) = (X : Int) + (Y : Int) := IntWalk.i64_in _ (by omega)
      have e0 : (((X + Y : Nat) : Int)) = (X : Int) + (Y : Int) := by omega
      rw [e0] at c3
      clear e0
      by_cases hpos : 0 < X
      · go_wp2
        go_quiet (fail)
        clear e1
        go_wp2
        exact ⟨⟨k + 1, by omega, by go_num, by rw [HSU.out]; go_num, by rw [HDSU.out, if_pos hpos]; go_num, ⟨HTT.out.x, HTT.out.y, HTT.out.z, HTT.out.bl.trans ⟨rfl, rfl, rfl, Nat.le_refl _, fun _ _ => rfl⟩⟩, HBY.out⟩, by simp [intOf]; omega⟩
      · have hx0 : X = 0 := by omega
        subst hx0
        go_wp2
        go_quiet (fail)
        clear e1
        go_wp2
        exact ⟨⟨k + 1, by omega, by go_num, by rw [HSU.out]; go_num, by rw [HDSU.out, if_neg hpos]; go_num, ⟨HTT.out.x, HTT.out.y, HTT.out.z, HTT.out.bl.trans ⟨rfl, rfl, rfl, Nat.le_refl _, fun _ _ => rfl⟩⟩, HBY.out⟩, by simp [intOf]; omega⟩
    · obtain rfl : k = 256 := by omega
      have hal := HALL.out
      rw [hal]
      clear hal
      have hdl := ds_le bsA 256
      generalize ds bsA 256 = D at *
      go_wp2_with (first
        | (go_at_call 22; refine (HDS.out _ HBY.out).mono ?_; rintro e w7 ⟨rfl, hb7⟩; have HB7 := Lib.hid hb7; clear hb7)
        | (go_at_call 15; refine (HAW.out _).mono ?_; rintro e w8 ⟨rfl, hb8⟩; have HB8 := Lib.hid hb8; clear hb8))
      go_ret
      exact ⟨rfl, (HTT.out.bl.trans (HB7.out.mono HTT.out.bl.size)).trans (HB8.out.mono (Nat.le_trans HTT.out.bl.size HB7.out.size))⟩

/-! ### THE ROW's STEP: WRITTEN OUT: LEAVE IT -/
set_option maxRecDepth 100000 in
theorem lifted (os : Os) (started : os.Started) (H : Type) (enc : TypeId × Value → H) :
    ReturnsInHanded {} Try.checked os 7 .any (Rows.entropyCountsSpec.pre6 enc Try.prog Try.f7 Rows.entropyCountsRow.domain false) (Rows.entropyCountsSpec.post enc Try.prog Try.f7 false true false false) := by
  refine returnsInHanded_of_change (C := Try.checked) own started (by kernel_rfl) Try.func7
    (ChangeSpec.witness6 (enc := enc) (C := Try.checked) false ⟨#[], #[.slice none 0 0, .int .i64 0, .int .i64 0], []⟩ 8 (by kernel_rfl) (by kernel_rfl) (by kernel_rfl) (by kernel_rfl)) ?_
  intro W base args ds gs before hval0 hW hcnd _
  have hval : ∀ (j : Nat) t v, Try.f7.params[j]? = some t → args[j]? = some v → Value.okWide Try.prog W .any base t v := hval0
  have hW' := hW
  obtain ⟨p, q, hA0, hV, rfl, hfz, hnd⟩ := hW
  have hA : DataW.TrodAll enc Try.prog W 0 (fun _ => true) true Try.f7.params.toList args.toList ds p := hA0
  rw [Try.params7] at hA hval
  obtain ⟨v0, vs0, d0, ds0, p0, q0, hargs, rfl, rfl, h0, r0⟩ := trodAll_cons hA
  obtain ⟨v1, vs1, d1, ds1, p1, q1, rfl, rfl, rfl, h1, r1⟩ := trodAll_cons r0
  obtain ⟨v2, vs2, d2, ds2, p2, q2, rfl, rfl, rfl, h2, r2⟩ := trodAll_cons r1
  obtain ⟨rfl, rfl, rfl⟩ := trodAll_nil r2
  obtain rfl : args = #[v0, v1, v2] := by cases args; simp_all
  obtain ⟨rfl, rfl⟩ := trodVars_none hV
  obtain ⟨a0, len0, cap0, rfl⟩ := okWide_slice Try.underlying23 (hval 0 23 v0 rfl rfl)
  have k0 := h0
  have lt0 : ∀ x ∈ p0, x.block < W.heap.size := by obtain ⟨m, hm⟩ := k0; exact DataW.trod_lt m _ _ _ hm
  obtain ⟨z0, w0⟩ : ∃ zs, IsRow .i64 W a0 len0 cap0 zs := by
    obtain ⟨fuel, hf⟩ := h0
    rcases open_ints Try.underlying23 Try.underlying3 (by kernel_rfl) hf with ⟨hcs, _⟩ | ⟨x, l, c, zs, hcs, _, hl, hm, hz, _, hcell, hwz⟩
    · simp [Value.cells] at hcs
      obtain ⟨rfl, rfl, rfl⟩ := hcs
      exact ⟨[], .inl ⟨rfl, rfl, rfl, rfl⟩⟩
    · simp [Value.cells] at hcs
      obtain ⟨rfl, rfl, rfl⟩ := hcs
      exact ⟨zs, .inr ⟨_, rfl, hl, hm, by simpa using hz, hcell, hwz⟩⟩
  obtain ⟨a1, rfl, rfl, rfl, w1⟩ := open_int Try.underlying3 (hval 1 3 v1 rfl rfl) h1
  obtain ⟨a2, rfl, rfl, rfl, w2⟩ := open_int Try.underlying3 (hval 2 3 v2 rfl rfl) h2
  clear hA0 hval0
  refine (walk a0 len0 cap0 z0 a1 a2 W w0 w1 w2).mono fun e W' ⟨he, bel⟩ => ?_
  subst he
  exact ⟨_, rfl, _, _, _, [], _, [], hW', trodAll_mk1 (shut_bool Try.underlying4 _), (trodAll_cons_mk (Below.trod laidOut (by kernel_rfl) (of_decide_eq_true (by kernel_rfl)) k0 bel lt0) (trodAll_cons_mk (shut_int Try.underlying3 w1) (trodAll_cons_mk (shut_int Try.underlying3 w2) trodAll_mk0))), rfl, bel.frame _, fun h => by cases h⟩

theorem over : Rows.entropyCountsRow.holds Try.pinned (OpenSpec.ofChange Rows.entropyCountsSpec) :=
  OpenClaim.holds_of_wide 7 Try.f7 rfl rfl rfl rfl rfl rfl rfl ⟨rfl, rfl, rfl, rfl, rfl⟩ rfl rfl rfl rfl rfl (by kernel_rfl) Try.func7 (by kernel_rfl)
    (of_decide_eq_true (by kernel_rfl)) (by unfold Func.isWrapper; first | (rw [if_pos (by decide +kernel)]; kernel_rfl) | (rw [if_neg (by decide +kernel)]; exact ⟨rfl, rfl⟩))
    (fun os started H enc _ => lifted os started H enc)

/-- ████ THE STATEMENT ████ -/
theorem proved : Rows.EntropyCountsSaid := over
#print axioms proved
end Go.Proofs.Ytidpkkekoldkgaa.entropyCounts
