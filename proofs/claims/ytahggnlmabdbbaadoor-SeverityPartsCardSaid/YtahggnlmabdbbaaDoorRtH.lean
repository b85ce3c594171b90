import Derived.Test.YtahggnlmabdbbaaDoorRtF
import Derived.Test.YtahggnlmabdbbaaDoorRtG
import Derived.Test.YtahggnlmabdbbaaDoorShelfA
import Derived.Test.YtahggnlmabdbbaaDoorShelfK
namespace Go.Proofs.YtahggnlmabdbbaaDoor.Di
open Go.RowKit Go.Maps Go.Sort Go.Shelf
open Go.Proofs.YtahggnlmabdbbaaDoor.Tp
set_option linter.unusedVariables false
set_option linter.unusedSimpArgs false

theorem sortsL (m : Nat) : AnyZI.SortsIn Tryd.prog Tryd.sortedL_ren Fence.wide m :=
  ⟨fun blk off cap ss W hH hblk hsz => callsIn_wide.2 (Tryd.slices_Sort_int blk off cap ss W hH hblk hsz),
   fun p cap W => callsIn_wide.2 (Tryd.slices_Sort_int_none p cap W)⟩
theorem sort_fl {p : Int → Bool} {n : Nat} {ss : List Int} (h : (fl p n).Perm ss) : (ss.mergeSort fun x y => decide (x ≤ y)) = fl p n := by
  have tr : ∀ a b c : Int, decide (a ≤ b) = true → decide (b ≤ c) = true → decide (a ≤ c) = true := fun a b c h1 h2 => by simp only [decide_eq_true_eq] at *; omega
  have to : ∀ a b : Int, (decide (a ≤ b) || decide (b ≤ a)) = true := fun a b => by simp only [Bool.or_eq_true, decide_eq_true_eq]; omega
  refine List.Perm.eq_of_pairwise (le := fun a b => decide (a ≤ b) = true) (fun a b _ _ h1 h2 => ?_) (List.pairwise_mergeSort tr to _) ?_ ((List.mergeSort_perm _ _).trans h.symm)
  · simp only [decide_eq_true_eq] at h1 h2; omega
  · exact (fl_up p n).imp (fun h => by simp only [decide_eq_true_eq]; omega)
theorem keys_of {w : World} {b n : Nat} {D : DataW Value} {K : List Int} {hs : Nat → Value} (hown : w.ownsMap Tryd.prog 3 hdR b n D) (h : Mp D K hs) (hd : K.Nodup) : K.Perm (intKeys D) := by
  obtain ⟨es, rfl, hp, hk⟩ := hown.entries law3
  obtain ⟨es2, e2, hko⟩ := hown.keysOf
  cases e2
  exact perm_intKeys hp (fun p hp => by obtain ⟨v, hv⟩ := hko p hp; obtain ⟨x, _, hx, _⟩ := Maps.keyOf_i64 Tryd.underlying3 hv; exact ⟨x, hx⟩) hd (fun x => by rw [h.has]; simp)
/-- The map of a call of chains, its keys sorted. -/
theorem reach_perm {x : Rt} {c : Int} {K ss : List Int} {C : List (List T4)} (hx : Rok x) (hc : 0 ≤ c ∧ c < x.c) (h : Bf x c K C K.length 0) (hp : ss.Perm K) : (ss.mergeSort fun x y => decide (x ≤ y)) = rl x c := by
  unfold rl
  refine sort_fl ?_
  refine (fl_of h.nd (fun y => ?_)).trans hp.symm
  rw [h.done rfl, rB_iff]
  constructor
  · intro hr
    have := hr.rng hx hc
    exact ⟨this.1, by omega, hr⟩
  · exact fun h => h.2.2
noncomputable def rlX (x : Rt) (c : Int) : List Int := @ite _ (exP x c) (Classical.propDecidable _) (rl x c) []
theorem rlX_yes {x : Rt} {c : Int} (h : exP x c) : rlX x c = rl x c := if_pos h
theorem rlX_no {x : Rt} {c : Int} (h : ¬ exP x c) : rlX x c = [] := if_neg h
set_option maxRecDepth 100000 in
set_option maxHeartbeats 4000000 in
theorem reach_yes (x : Rt) (v : Vr) (c : Int) (w : World) (h : RL w 0 x v) (hs : szs x) (he : exP x c) :
    Calls Tryd.prog 43 #[.agg (gr x v), .int .i64 c] w (PwPost (rl x c) w) := by
  have HB0 := Lib.hid (box_below w (.cells (gr x v) 27))
  have HR0 := Lib.hid (heap_alloc_new w (.cells (gr x v) 27))
  obtain ⟨c0, c1, c2, c3, c4⟩ := grCells HR0.out
  have HF := Lib.hid (show (#[.int .i64 x.c, .int .i64 x.k, .slice v.A1 x.g.length v.c1, .slice v.A2 x.s.length v.c2, .slice v.A3 x.m.length v.c3] : Array Value) = gr x v from rfl)
  have HX := Lib.hid (ex_yes x v c _ (h.below HB0.out) hs he)
  have HCH := Lib.hid (fun w' (hb : Below w.heap.size w w') => chains_any x v c w' (h.below hb) he.1 he.2)
  have HE := Lib.hid he
  have HKEYS := Lib.hid (show ∀ (b : Nat) (W : World), Calls Tryd.prog 51 #[.map (some b)] W (fun e w' => e = .returned (.func (.func 57) #[] #[.pointer (some ⟨W.heap.size, 0, none⟩)]) ∧ w' = W.alloc (.cells #[.map (some b)] 91)) from fun b W => callsIn_wide.1 (AnyZI.keys_in Tryd.keysL Fence.wide 5 trivial rfl (some b) W))
  have HSORT := Lib.hid (show ∀ (w' : World) (b : Nat) (D : DataW Value), w'.ownsMap Tryd.prog 3 hdR b 24 D → Maps.size D ≤ 24 → Calls Tryd.prog 50 #[.func (.func 57) #[] #[.pointer (some ⟨w'.heap.size, 0, none⟩)]] (w'.alloc (.cells #[.map (some b)] 91)) (fun e w2 => ∃ (v : Value) (ss : List Int), e = .returned v ∧ ss.Perm (intKeys D) ∧ w2.ownsRow (w'.alloc (.cells #[.map (some b)] 91)).heap.size 3 1 v ss.length ((ss.mergeSort (fun x y => decide (x ≤ y))).map encZ) ∧ (v = .slice none 0 0 ↔ ss = []) ∧ Below (w'.alloc (.cells #[.map (some b)] 91)).heap.size (w'.alloc (.cells #[.map (some b)] 91)) w2) from fun w' b D hown hsz => callsIn_wide.1 (AnyZI.sorted_in Tryd.sortedL Fence.wide 5 trivial trivial trivial trivial rfl (by omega) (sortsL _) (enters_of Tryd.func56 (by kernel_rfl) rfl) 57 #[.pointer (some ⟨w'.heap.size, 0, none⟩)] trivial (enters_of Tryd.func57 (by kernel_rfl) rfl) (fun ss => ss.Perm (intKeys D)) (Maps.size D) (Nat.le_trans hsz (by decide)) (by omega) (w'.alloc (.cells #[.map (some b)] 91))
    (AnyZI.keys_gives (ρ := Tryd.keysL_ren) { Tryd.keysL with } Fence.wide _ trivial rfl (by omega) w'.heap.size b 24 D _ (by simp) (by simp) (hown.alloc _))))
  unfold ChPost at HCH
  have HPM := Lib.hid (fun (K ss : List Int) (C : List (List T4)) (h1 : Bf x c K C K.length 0) (h2 : ss.Perm K) => reach_perm he.1 he.2 h1 h2)
  unfold PwPost
  clear h hs
  go_enter Tryd.func43, Tryd.ntmps43
  go_wp2_with (first
    | (go_at_call 41; rw [HF.out]; refine HX.out.mono ?_; rintro e w1 ⟨rfl, hb1⟩; have HB1 := Lib.hid (HB0.out.trans (hb1.mono HB0.out.size)); have M1 := Lib.hid ((hb1.block _ (row_lt HR0.out)).trans HR0.out); clear hb1 c0 c1 c2 c3 c4; obtain ⟨c0, c1, c2, c3, c4⟩ := grCells M1.out)
    | (go_at_call 52; rw [HF.out]; (with_reducible refine (HCH.out _ HB1.out).mono ?_); rintro e w2 ⟨b, K, C, D, hs, rfl, hb, hown, hmp, hbf, hrows, hb2⟩; have HB2 := Lib.hid (HB1.out.trans (hb2.mono HB1.out.size)); have HOWN := Lib.hid hown; have HPM2 := Lib.hid (fun ss h => HPM.out K ss C hbf (List.Perm.trans h (keys_of hown hmp hbf.nd).symm)); have HSO := Lib.hid (HSORT.out w2 b D hown (by rw [hmp.sz]; exact hbf.k24 HE.out.1)); clear hown hmp hbf hrows hb2 hb c0 c1 c2 c3 c4)
    | (go_at_call 51; (with_reducible refine (HKEYS.out _ _).mono ?_); rintro e w3 ⟨rfl, rfl⟩)
    | (go_at_call 50; (with_reducible refine HSO.out.mono ?_); rintro e w4 ⟨v4, ss, rfl, hS, hrow, hnil, hb4⟩; have HR4 := Lib.hid hrow; have HSS := Lib.hid (HPM2.out ss hS); have HB4 := Lib.hid ((HB2.out.trans ((box_below w2 _).mono HB2.out.size)).trans (hb4.mono (HB2.out.trans ((box_below w2 _).mono HB2.out.size)).size)); clear hrow hS hnil hb4))
  go_ret
  have hr := HR4.out
  rw [HSS.out] at hr
  have hl : ss.length = (rl x c).length := by rw [← HSS.out]; simp
  rw [hl] at hr
  obtain ⟨A, cc, rfl⟩ := own_form hr
  exact ⟨A, cc, by first | rfl | simp, own_base hr (by have := HB2.out.size; simp; omega), HB4.out⟩
set_option maxRecDepth 100000 in
set_option maxHeartbeats 400000 in
theorem reach_no (x : Rt) (v : Vr) (c : Int) (w : World) (h : RL w 0 x v) (hs : szs x) (he : ¬ exP x c) :
    Calls Tryd.prog 43 #[.agg (gr x v), .int .i64 c] w (PwPost [] w) := by
  have HB0 := Lib.hid (box_below w (.cells (gr x v) 27))
  have HR0 := Lib.hid (heap_alloc_new w (.cells (gr x v) 27))
  obtain ⟨c0, c1, c2, c3, c4⟩ := grCells HR0.out
  have HF := Lib.hid (show (#[.int .i64 x.c, .int .i64 x.k, .slice v.A1 x.g.length v.c1, .slice v.A2 x.s.length v.c2, .slice v.A3 x.m.length v.c3] : Array Value) = gr x v from rfl)
  have HX := Lib.hid (ex_no x v c _ (h.below HB0.out) hs he)
  unfold PwPost
  clear h hs he
  go_enter Tryd.func43, Tryd.ntmps43
  go_wp2_with (go_at_call 41; rw [HF.out]; refine HX.out.mono ?_; rintro e w1 ⟨rfl, hb1⟩; have HB1 := Lib.hid (HB0.out.trans (hb1.mono HB0.out.size)); clear hb1 c0 c1 c2 c3 c4)
  go_ret
  exact ⟨none, 0, rfl, own_nil _ _ _ _, HB1.out⟩
theorem reach_any (x : Rt) (v : Vr) (c : Int) (w : World) (h : RL w 0 x v) (hs : szs x) :
    Calls Tryd.prog 43 #[.agg (gr x v), .int .i64 c] w (PwPost (rlX x c) w) := by
  by_cases he : exP x c
  · rw [rlX_yes he]; exact reach_yes x v c w h hs he
  · rw [rlX_no he]; exact reach_no x v c w h hs he
/-- The power of a credential. -/
noncomputable def pwr (x : Rt) (c : Int) : List Int := pw x (rB x c)
noncomputable def pwX (x : Rt) (c : Int) : List Int := @ite _ (exP x c) (Classical.propDecidable _) (pwr x c) []
theorem pwX_yes {x : Rt} {c : Int} (h : exP x c) : pwX x c = pwr x c := if_pos h
theorem pwX_no {x : Rt} {c : Int} (h : ¬ exP x c) : pwX x c = [] := if_neg h
theorem pw_rl {x : Rt} {c : Int} (h : exP x c) : pw x (inB (rl x c)) = pwr x c := by
  unfold pwr
  refine pw_congr (fun y => ?_)
  cases hi : inB (rl x c) y with
  | true => exact (rB_iff.2 ((rl_mem h.1 h.2 y).1 (inB_iff.1 hi))).symm
  | false =>
    cases hr : rB x c y with
    | false => rfl
    | true =>
      rw [inB_iff.2 ((rl_mem h.1 h.2 y).2 (rB_iff.1 hr))] at hi
      cases hi
set_option maxRecDepth 100000 in
set_option maxHeartbeats 4000000 in
theorem power_yes (x : Rt) (v : Vr) (c : Int) (w : World) (h : RL w 0 x v) (hs : szs x) (he : exP x c) :
    Calls Tryd.prog 27 #[.agg (gr x v), .int .i64 c] w (PwPost (pwr x c) w) := by
  have HB0 := Lib.hid (box_below w (.cells (gr x v) 27))
  have HR0 := Lib.hid (heap_alloc_new w (.cells (gr x v) 27))
  obtain ⟨c0, c1, c2, c3, c4⟩ := grCells HR0.out
  have HF := Lib.hid (show (#[.int .i64 x.c, .int .i64 x.k, .slice v.A1 x.g.length v.c1, .slice v.A2 x.s.length v.c2, .slice v.A3 x.m.length v.c3] : Array Value) = gr x v from rfl)
  have HX := Lib.hid (ex_yes x v c _ (h.below HB0.out) hs he)
  have HRE := Lib.hid (fun w' (hb : Below w.heap.size w w') => reach_yes x v c w' (h.below hb) hs he)
  have hrl := rl_len he.1 c
  have HGR := Lib.hid (fun w' (hb : Below w.heap.size w w') A cc (hr : Row w' 0 1 A (rl x c).length (zv (rl x c))) => greatest_any x v (rl x c) A cc w' (h.below hb) he.1 hr (by omega))
  rw [pw_rl he] at HGR
  have hk : ∀ w', Below w.heap.size w w' → w.heap.size < w'.heap.size → w'.heap[w.heap.size]? = some (.cells (gr x v) 27 (0, 0)) → AtR w' w.heap.size x v := fun w' _ _ h => grCells h
  unfold PwPost at HRE HGR
  unfold PwPost
  clear h hs he
  go_enter Tryd.func27, Tryd.ntmps27
  go_wp2_with (go_at_call 41; rw [HF.out]; refine HX.out.mono ?_; rintro e w1 ⟨rfl, hb1⟩; have HB1 := Lib.hid (HB0.out.trans (hb1.mono HB0.out.size)); have M1 := Lib.hid ((hb1.block _ (row_lt HR0.out)).trans HR0.out); clear hb1 c0 c1 c2 c3 c4)
  have HK := Lib.hid (show ∀ w', Below w1.heap.size w1 w' → (w'.cell? ⟨w.heap.size, 0, none⟩ = some (.int .i64 x.c) ∧ w'.cell? ⟨w.heap.size, 1, none⟩ = some (.int .i64 x.k) ∧ w'.cell? ⟨w.heap.size, 2, none⟩ = some (.slice v.A1 x.g.length v.c1) ∧ w'.cell? ⟨w.heap.size, 3, none⟩ = some (.slice v.A2 x.s.length v.c2) ∧ w'.cell? ⟨w.heap.size, 4, none⟩ = some (.slice v.A3 x.m.length v.c3)) from fun w' hb => grCells ((hb.block _ (row_lt M1.out)).trans M1.out))
  have hbr : Below w1.heap.size w1 w1 := Below.refl _ _
  have hbd : Below w1.heap.size w1 w1.drew := hbr.drew
  have HRD := Lib.hid (HRE.out w1.drew HB1.out.drew)
  go_region_held3 (fun w' => w'.cell? ⟨w.heap.size, 0, none⟩ = some (.int .i64 x.c) ∧ w'.cell? ⟨w.heap.size, 1, none⟩ = some (.int .i64 x.k) ∧ w'.cell? ⟨w.heap.size, 2, none⟩ = some (.slice v.A1 x.g.length v.c1) ∧ w'.cell? ⟨w.heap.size, 3, none⟩ = some (.slice v.A2 x.s.length v.c2) ∧ w'.cell? ⟨w.heap.size, 4, none⟩ = some (.slice v.A3 x.m.length v.c3))
    (first | (with_reducible assumption) | (with_reducible exact HK.out _ hbr) | (with_reducible exact HK.out _ hbd) | (with_reducible exact HK.out _ hb4) | (with_reducible exact HK.out _ hb3) | fail)
    (first
      | (go_at_call 43; rw [HF.out]; (with_reducible refine HRD.out.mono ?_); rintro e w3 ⟨A3, c3, rfl, hown, hb3'⟩; have hb3 : Below w1.heap.size w1 w3 := hbd.trans hb3'; have HB3 := Lib.hid (HB1.out.trans (hb3.mono HB1.out.size)); have HG3 := Lib.hid (HGR.out w3 (HB1.out.trans (hb3.mono HB1.out.size)) A3 c3 ((row_of_own hown).base (Nat.zero_le _))); clear hown hb3')
      | (go_at_call 42; (try rw [HF.out]); (with_reducible refine HG3.out.mono ?_); rintro e w4 ⟨A4, cc4, rfl, hown, hb4'⟩; have hb4 : Below w1.heap.size w1 w4 := hb3.trans (hb4'.mono hb3.size); have HB4 := Lib.hid (HB1.out.trans (hb4.mono HB1.out.size)); have HO4 := Lib.hid (own_base hown HB3.out.size); clear hown hb4'))
  go_wp2_with fail
  go_ret
  exact ⟨A4, cc4, rfl, HO4.out, HB4.out⟩
set_option maxRecDepth 100000 in
set_option maxHeartbeats 400000 in
theorem power_no (x : Rt) (v : Vr) (c : Int) (w : World) (h : RL w 0 x v) (hs : szs x) (he : ¬ exP x c) :
    Calls Tryd.prog 27 #[.agg (gr x v), .int .i64 c] w (PwPost [] w) := by
  have HB0 := Lib.hid (box_below w (.cells (gr x v) 27))
  have HR0 := Lib.hid (heap_alloc_new w (.cells (gr x v) 27))
  obtain ⟨c0, c1, c2, c3, c4⟩ := grCells HR0.out
  have HF := Lib.hid (show (#[.int .i64 x.c, .int .i64 x.k, .slice v.A1 x.g.length v.c1, .slice v.A2 x.s.length v.c2, .slice v.A3 x.m.length v.c3] : Array Value) = gr x v from rfl)
  have HX := Lib.hid (ex_no x v c _ (h.below HB0.out) hs he)
  unfold PwPost
  clear h hs he
  go_enter Tryd.func27, Tryd.ntmps27
  go_wp2_with (go_at_call 41; rw [HF.out]; refine HX.out.mono ?_; rintro e w1 ⟨rfl, hb1⟩; have HB1 := Lib.hid (HB0.out.trans (hb1.mono HB0.out.size)); clear hb1 c0 c1 c2 c3 c4)
  go_ret
  exact ⟨none, 0, rfl, own_nil _ _ _ _, HB1.out⟩
theorem power_any (x : Rt) (v : Vr) (c : Int) (w : World) (h : RL w 0 x v) (hs : szs x) :
    Calls Tryd.prog 27 #[.agg (gr x v), .int .i64 c] w (PwPost (pwX x c) w) := by
  by_cases he : exP x c
  · rw [pwX_yes he]; exact power_yes x v c w h hs he
  · rw [pwX_no he]; exact power_no x v c w h hs he

end Go.Proofs.YtahggnlmabdbbaaDoor.Di
