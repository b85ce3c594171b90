import Derived.Test.YtgknfkmojhganaaRdAll
namespace Go.Proofs.Ytgknfkmojhganaa.Di
open Go.RowKit
open Go.Proofs.Ytgknfkmojhganaa.Tp
set_option linter.unusedVariables false
set_option linter.unusedSimpArgs false

/-- Twenty-four times twenty-four bools, as cells. -/
def mat (F : Nat → Nat → Bool) : Array Value := (rl (fun i => Value.bool (F (i / 24) (i % 24))) 576).toArray
theorem zero97 (w : World) : (zeroValue 97).run Try.prog w = .ok (.agg (mat (fun _ _ => false))) w := by kernel_rfl
theorem mat_idx {p q : Nat} (hp : p < 24) (hq : q < 24) : p * 24 + q < 576 ∧ (p * 24 + q) / 24 = p ∧ (p * 24 + q) % 24 = q := by omega
set_option maxRecDepth 20000 in
theorem mat_cell {w : World} {X p q : Nat} {F : Nat → Nat → Bool} {t : TypeId} (h : w.heap[X]? = some (.cells (mat F) t (0, 0))) (hp : p < 24) (hq : q < 24) : w.cell? ⟨X, p * 24 + q, none⟩ = some (.bool (F p q)) ∧ w.frozen? ⟨X, p * 24 + q, none⟩ = false := by
  obtain ⟨h1, h2, h3⟩ := mat_idx hp hq
  refine ⟨?_, frozen_of_row _ _ _ _ _ h⟩
  rw [cell_of_row _ _ _ _ _ _ h]
  unfold mat
  rw [List.getElem?_toArray, rl_at _ _ _ h1, h2, h3]
set_option maxRecDepth 20000 in
theorem mat_put {w : World} {X p q : Nat} {F : Nat → Nat → Bool} {t : TypeId} (b : Bool) (h : w.heap[X]? = some (.cells (mat F) t (0, 0))) (hp : p < 24) (hq : q < 24) : w.setCell ⟨X, p * 24 + q, none⟩ (.bool b) = w.setRow X (mat (fun a c => if a = p ∧ c = q then b else F a c)) := by
  obtain ⟨h1, h2, h3⟩ := mat_idx hp hq
  rw [setCell_eq_setRow _ _ _ _ _ _ _ h]
  congr 1
  unfold mat
  rw [List.setIfInBounds_toArray]
  congr 1
  rw [rl_set _ _ _ _ h1]
  congr 1
  funext a
  by_cases e : a = p * 24 + q
  · subst e
    rw [if_pos rfl, h2, h3]
    exact congrArg Value.bool (if_pos (⟨rfl, rfl⟩ : p = p ∧ q = q)).symm
  · rw [if_neg e]
    exact congrArg Value.bool (if_neg (fun h => e (by omega))).symm
theorem mat_congr {F G : Nat → Nat → Bool} (h : ∀ p q, F p q = G p q) : mat F = mat G := by
  have : F = G := funext fun p => funext fun q => h p q
  rw [this]
/-- How many are not reached yet. -/
def cf (f : Nat → Bool) (n : Nat) : Nat := cnt (fun q => !f q) n
def falB (W : World) (G q : Nat) : Bool := match W.cell? ⟨G, q, none⟩ with | some (.bool false) => true | _ => false
theorem cnt_cong {f g : Nat → Bool} : ∀ n, (∀ i, i < n → f i = g i) → cnt f n = cnt g n
  | 0, _ => rfl
  | n + 1, h => by
    have h1 := cnt_cong n (fun i hi => h i (by omega))
    have h2 := h n (by omega)
    cases hg : g n with
    | true => rw [cnt_tt (h2.trans hg), cnt_tt hg, h1]
    | false => rw [cnt_ff (h2.trans hg), cnt_ff hg, h1]
theorem cf_put {f : Nat → Bool} {b : Nat} (hf : f b = false) : ∀ n, b < n → cf (fun q => if q = b then true else f q) n + 1 = cf f n
  | 0, h => absurd h (by omega)
  | n + 1, h => by
    unfold cf
    by_cases e : b = n
    · subst e
      rw [cnt_ff (q := fun q => !(if q = b then true else f q)) (by simp), cnt_tt (q := fun q => !f q) (by simp [hf])]
      rw [cnt_cong b (fun i hi => by rw [if_neg (show ¬ i = b by omega)])]
    · have ih := cf_put hf n (by omega)
      have ih : cnt (fun q => !(if q = b then true else f q)) n + 1 = cnt (fun q => !f q) n := ih
      cases hn : f n with
      | true => rw [cnt_ff (q := fun q => !(if q = b then true else f q)) (by simp [hn]), cnt_ff (q := fun q => !f q) (by simp [hn])]; exact ih
      | false => rw [cnt_tt (q := fun q => !(if q = b then true else f q)) (by rw [if_neg (fun h => e h.symm)]; simp [hn]), cnt_tt (q := fun q => !f q) (by simp [hn])]; omega
/-- Marks in memory. -/
def Mk2 (W : World) (B G n : Nat) (f : Nat → Bool) : Prop := W.ownsRow B 4 1 (.slice (some ⟨G, 0, none⟩) n n) n (rl (fun q => Value.bool (f q)) n)
theorem Mk2.cell {W : World} {B G n : Nat} {f : Nat → Bool} (h : Mk2 W B G n f) {q : Nat} (hq : q < n) : W.cell? ⟨G, q, none⟩ = some (.bool (f q)) ∧ W.frozen? ⟨G, q, none⟩ = false := by
  obtain ⟨h1, h2, -, -⟩ := own_put (u := .bool true) h hq
  rw [rl_at _ _ _ hq] at h1
  exact ⟨h1, h2⟩
theorem Mk2.put {W : World} {B G n : Nat} {f : Nat → Bool} (h : Mk2 W B G n f) {q : Nat} (hq : q < n) (b : Bool) : Mk2 (W.setCell ⟨G, q, none⟩ (.bool b)) B G n (fun a => if a = q then b else f a) ∧ W.grownBy (W.setCell ⟨G, q, none⟩ (.bool b)) (some G) := by
  obtain ⟨-, -, h3, h4⟩ := own_put (u := .bool b) h hq
  rw [rl_set _ _ _ _ hq] at h3
  refine ⟨?_, h4⟩
  have e : (fun j => if j = q then Value.bool b else Value.bool (f j)) = fun j => Value.bool (if j = q then b else f j) := by
    funext j
    split <;> rfl
  rw [e] at h3
  exact h3
theorem Mk2.cf {W : World} {B G n : Nat} {f : Nat → Bool} (h : Mk2 W B G n f) : cnt (falB W G) n = cf f n := cnt_cong n fun q hq => by
  unfold falB
  rw [(h.cell hq).1]
  cases f q <;> rfl
def mv1 (v : Value) : Nat := match v with | .bool true => 1 | _ => 0
/-- What is reached is reached. -/
def Sound (d : Dy) (t p : Nat) (f : Nat → Bool) : Prop := f p = true ∧ ∀ q, q < d.k.length → f q = true → Rc d t p q
theorem Sound.put {d : Dy} {t p a b : Nat} {f : Nat → Bool} (h : Sound d t p f) (hp : p < d.k.length) (ha : a < d.k.length) (hb : b < d.k.length) (hfa : f a = true) (hm : dm d t a b = true) : Sound d t p (fun q => if q = b then true else f q) := by
  refine ⟨by show (if p = b then true else f p) = true; split <;> simp [h.1], fun q hq hf => ?_⟩
  have hf : (if q = b then true else f q) = true := hf
  by_cases e : q = b
  · rw [e]; exact .step (h.2 a ha hfa) ha hb hm
  · rw [if_neg e] at hf; exact h.2 q hq hf
theorem sound_up {d : Dy} {t p : Nat} {f : Nat → Bool} (h : Sound d t p f) (hp : p < d.k.length) (hc : ∀ a, a < d.k.length → ∀ b, b < d.k.length → f a = true → dm d t a b = true → f b = true) (q : Nat) (hq : q < d.k.length) : f q = upB d t p q := by
  apply Bool.eq_iff_iff.2
  rw [upB_iff]
  refine ⟨fun hf => ⟨hp, h.2 q hq hf⟩, fun ⟨_, hr⟩ => ?_⟩
  have key : q < d.k.length → f q = true := closed_has (M := dm d t) (n := d.k.length) (S := fun a => a < d.k.length → f a = true) (fun a hs ha b hb hm _ => hc a ha b hb (hs ha) hm) (fun _ => h.1) hr
  exact key hq
def UpsPost (d : Dy) (t p : Nat) (w : World) (e : Ending) (w' : World) : Prop := ∃ G, e = .returned (.slice (some ⟨G, 0, none⟩) d.k.length d.k.length) ∧ Mk2 w' w.heap.size G d.k.length (upB d t p) ∧ Below w.heap.size w w'
theorem mat_one (F : Nat → Nat → Bool) : (mat F).all (·.oneCell') = true := by
  rw [Array.all_eq_true']
  intro x hx
  unfold mat rl at hx
  simp at hx
  obtain ⟨i, -, rfl⟩ := hx
  rfl
set_option maxRecDepth 100000 in
set_option maxHeartbeats 8000000 in
theorem ups_any (d : Dy) (v : Vd) (p t : Nat) (w : World) (h : DL w 0 d v) (hok : Ok d) (hp : p < d.k.length) :
    Calls Try.prog 43 #[.agg (gd d v), .int .i64 (p : Int), .int .i64 (t : Int)] w (UpsPost d t p w) := by
  obtain ⟨A1, k1, A2, k2⟩ := v
  have hn := hok.n
  have hm := hok.m
  have hz := zero97
  have hbx := (box_below w (.cells (gd d ⟨A1, k1, A2, k2⟩) 29)).trans ((box_below (w.alloc (.cells (gd d ⟨A1, k1, A2, k2⟩) 29)) (.cells (mat (fun _ _ => false)) 97)).mono (by simp))
  have HBX := Lib.hid hbx
  have D1 := Lib.hid (heap_alloc2_old w (.cells (gd d ⟨A1, k1, A2, k2⟩) 29) (.cells (mat (fun _ _ => false)) 97))
  have M1 := Lib.hid (heap_alloc2_new w (.cells (gd d ⟨A1, k1, A2, k2⟩) 29) (.cells (mat (fun _ _ => false)) 97))
  have HD := Lib.hid (h.below hbx)
  have HOK := Lib.hid hok
  obtain ⟨g0, g1⟩ := gdCells D1.out
  have lD := row_lt D1.out
  have lM := row_lt M1.out
  have HDM := Lib.hid (show ∀ a c, dmk d t a c d.e.length = dm d t a c from fun _ _ => rfl)
  have HSK := Lib.hid (show ∀ a c k, dmk d t a c (k + 1) = if hitm (eg d k) t a c then (eg d k).k == 1 else dmk d t a c k from fun _ _ _ => rfl)
  have HD0 := Lib.hid h
  clear h hok hbx
  go_enter Try.func43, Try.ntmps43
  go_wp2_with fail
  go_loopw [17] (fun ii wr => ∃ k : Nat, k ≤ d.e.length ∧ ii = .int .i64 (k : Int) ∧ wr.heap[w.heap.size + 1]? = some (.cells (mat (fun a c => dmk d t a c k)) 97 (0, 0)) ∧ wr.heap[w.heap.size]? = some (.cells (gd d ⟨A1, k1, A2, k2⟩) 29 (0, 0)) ∧ Below w.heap.size w wr) (fun ii _ => d.e.length - (intOf ii).toNat)
  case atStart => exact ⟨0, by omega, rfl, M1.out, D1.out, HBX.out⟩
  case round =>
    obtain ⟨k, hk, rfl, hmt, hdd, hbl⟩ := hrel
    have HMT := Lib.hid hmt
    have HDD := Lib.hid hdd
    have HBL := Lib.hid hbl
    by_cases hlt : k < d.e.length
    · obtain ⟨b, off, hA, -, hbk, y0, y1, y2, y3⟩ := (HD0.out.below hbl).r2.evt hlt
      have hA : A2 = some ⟨b, off, none⟩ := hA
      subst hA
      rw [show d.e.getD k m0 = eg d k from rfl] at y0 y1 y2 y3
      have hev := HOK.out.e k hlt
      have HS := Lib.hid (fun a c => HSK.out a c k)
      have HIT := Lib.hid (fun a c => hitm_iff (eg d k) t a c)
      generalize eg d k = x at *
      obtain ⟨xt, xk, xp, xg⟩ := x
      obtain ⟨a1, a2, a3, a4, a5, a6⟩ := hev
      simp only at y0 y1 y2 y3 a1 a2 a3 a4 a5 a6
      have hbx := box_below wr (.cells #[.int .i64 (xt : Int), .int .i64 (xk : Int), .int .i64 (xp : Int), .int .i64 (xg : Int)] 62)
      have XN := Lib.hid (heap_alloc_new wr (.cells #[.int .i64 (xt : Int), .int .i64 (xk : Int), .int .i64 (xp : Int), .int .i64 (xg : Int)] 62))
      have n0 : (wr.alloc (.cells #[.int .i64 (xt : Int), .int .i64 (xk : Int), .int .i64 (xp : Int), .int .i64 (xg : Int)] 62)).cell? ⟨wr.heap.size, 0, none⟩ = some (.int .i64 (xt : Int)) := by rw [cell_of_row _ _ _ _ _ _ XN.out]; rfl
      have n1 : (wr.alloc (.cells #[.int .i64 (xt : Int), .int .i64 (xk : Int), .int .i64 (xp : Int), .int .i64 (xg : Int)] 62)).cell? ⟨wr.heap.size, 1, none⟩ = some (.int .i64 (xk : Int)) := by rw [cell_of_row _ _ _ _ _ _ XN.out]; rfl
      have n2 : (wr.alloc (.cells #[.int .i64 (xt : Int), .int .i64 (xk : Int), .int .i64 (xp : Int), .int .i64 (xg : Int)] 62)).cell? ⟨wr.heap.size, 2, none⟩ = some (.int .i64 (xp : Int)) := by rw [cell_of_row _ _ _ _ _ _ XN.out]; rfl
      have n3 : (wr.alloc (.cells #[.int .i64 (xt : Int), .int .i64 (xk : Int), .int .i64 (xp : Int), .int .i64 (xg : Int)] 62)).cell? ⟨wr.heap.size, 3, none⟩ = some (.int .i64 (xg : Int)) := by rw [cell_of_row _ _ _ _ _ _ XN.out]; rfl
      have MX := (hbx.block _ (row_lt hmt)).trans hmt
      have DX := Lib.hid ((hbx.block _ (row_lt hdd)).trans hdd)
      have BX := Lib.hid (hbl.trans (hbx.mono hbl.size))
      obtain ⟨mc1, mc2⟩ := mat_cell MX (show xp < 24 by omega) (show xg < 24 by omega)
      have HPUT := Lib.hid (mat_put ((xk : Int) == 1) MX (show xp < 24 by omega) (show xg < 24 by omega))
      have MXH := Lib.hid MX
      have i0 : (0 : Int) ≤ (k : Int) := by omega
      have i1 : (k : Int) < (d.e.length : Int) := by omega
      have p0 : (0 : Int) ≤ (xp : Int) := by omega
      have p1 : (xp : Int) < 24 := by omega
      have q0 : (0 : Int) ≤ (xg : Int) := by omega
      have q1 : (xg : Int) < 24 := by omega
      clear hbx hbl hmt hdd MX
      by_cases ht : xt ≤ t
      · have d1 : decide ((xt : Int) ≤ (t : Int)) = true := decide_eq_true (by omega)
        go_wp2_with fail
        go_region
        go_wp2_with fail
        have hF : mat (fun a c => if a = xp ∧ c = xg then ((xk : Int) == 1) else dmk d t a c k) = mat (fun a c => dmk d t a c (k + 1)) := mat_congr fun a c => by
          have h1 := HS.out a c
          have h2 := HIT.out a c
          rw [h1]
          by_cases e : a = xp ∧ c = xg
          · rw [if_pos e, if_pos (h2.2 ⟨ht, e.1.symm, e.2.symm⟩)]
            show ((xk : Int) == 1) = (xk == 1)
            by_cases e1 : xk = 1
            · rw [e1]; rfl
            · rw [beq_eq_false_iff_ne.2 e1, beq_eq_false_iff_ne.2 (by omega)]
          · rw [if_neg e, if_neg (fun h => e ⟨(h2.1 h).2.1.symm, (h2.1 h).2.2.symm⟩)]
        have hW := HPUT.out
        rw [hF] at hW
        rw [hW]
        exact ⟨⟨k + 1, by omega, by go_num, setRow_heap _ _ _ _ _ _ MXH.out, ((gb_setRow _ _ _).block w.heap.size (row_lt DX.out) (by simp)).trans DX.out, (below_setRow BX.out (by omega) _).drew⟩, by simp [intOf]; omega⟩
      · have d1 : decide ((xt : Int) ≤ (t : Int)) = false := decide_eq_false (by omega)
        have HF := Lib.hid (show mat (fun a c => dmk d t a c (k + 1)) = mat (fun a c => dmk d t a c k) from mat_congr fun a c => (HS.out a c).trans (if_neg (fun h => ht ((HIT.out a c).1 h).1)))
        go_wp2_with fail
        exact ⟨⟨k + 1, by omega, by go_num, by rw [HF.out]; exact MXH.out, DX.out, BX.out⟩, by simp [intOf]; omega⟩
    · obtain rfl : k = d.e.length := by omega
      obtain ⟨j0, hj1, hy0, hy1, hy2⟩ := info_parts (show (Try.prog.info? 4).map (fun i => (i.zero, i.size, i.bytes)) = some (some (.bool false), 1, 1) by kernel_rfl)
      have HJ := Lib.hid hj1
      have HJ0 := Lib.hid hy0
      have HJ1 := Lib.hid hy1
      have HJ2 := Lib.hid hy2
      rw [mat_congr (fun a c => HDM.out a c)] at hmt
      have HMT2 := Lib.hid hmt
      rename World => wb
      have HBL0 := Lib.hid HBL.out
      have lB : w.heap.size + 1 < wb.heap.size := row_lt hmt
      obtain ⟨g0, g1⟩ := gdCells hdd
      have n0 : (0 : Int) ≤ (p : Int) := by omega
      have n1 : (p : Int) < (d.k.length : Int) := by omega
      clear hj1 hy0 hy1 hy2 hmt hbl HMT
      go_wp2_with (at_make; refine wpList_make_full _ rfl _ _ 75 rfl wb.heap.size 4 j0 (.bool false) 1 Try.underlying75 HJ.out HJ0.out HJ1.out .i64 .i64 _ _ d.k.length rfl rfl rfl rfl (by rw [HJ2.out]; omega) (by unfold maxLen; omega) (Nat.le_refl _) ?_; intro w2 hown hgr; have hrow : Mk2 w2 wb.heap.size wb.heap.size d.k.length (fun _ => false) := (by have e := hown; rw [show Value.cells (.bool false) = #[.bool false] from rfl, made_cells] at e; exact e); have HROW := Lib.hid hrow; have HB2 := Lib.hid ((Below.refl wb.heap.size wb).grown hgr (Nat.le_refl _) (fun k e => by cases e)); obtain ⟨pc, pf⟩ := hrow.cell hp; clear hown hgr hrow g0 g1)
      have hput := HROW.out.put hp true
      have HP1 := Lib.hid hput.1
      have HBP := Lib.hid (HB2.out.grown hput.2 HB2.out.size (fun k e => by cases e; exact Nat.le_refl _))
      have HS0 := Lib.hid (show Sound d t p (fun a => if a = p then true else false) from ⟨if_pos rfl, fun q hq hf => by
        by_cases e : q = p
        · rw [e]; exact .here
        · have hf : (if q = p then true else false) = true := hf
          rw [if_neg e] at hf; cases hf⟩)
      clear hput pc pf
      generalize w2.setCell ⟨wb.heap.size, p, none⟩ (.bool true) = w3 at *
      generalize hG : wb.heap.size = G at *
      have HKEEP := Lib.hid (fun wr (hb : Below G wb wr) => (⟨(hb.block _ (by omega)).trans HMT2.out, (hb.block _ (by omega)).trans HDD.out⟩ : wr.heap[w.heap.size + 1]? = some (.cells (mat (fun a c => dm d t a c)) 97 (0, 0)) ∧ wr.heap[w.heap.size]? = some (.cells (gd d ⟨A1, k1, A2, k2⟩) 29 (0, 0))))
      go_loopw [11] (fun mv wr => ∃ (f : Nat → Bool) (m : Bool), mv = .bool m ∧ Mk2 wr G G d.k.length f ∧ Sound d t p f ∧ Below G wb wr ∧ (m = false → ∀ a, a < d.k.length → ∀ b, b < d.k.length → f a = true → dm d t a b = true → f b = true)) (fun mv wr => mv1 mv + cnt (falB wr G) d.k.length)
      case atStart => exact ⟨_, true, rfl, HP1.out, HS0.out, HBP.out, fun h => by cases h⟩
      case round =>
        obtain ⟨f0, m, rfl, hmk, hsd, hbl, hcl⟩ := hrel
        rename World => wo
        cases m with
        | false =>
          have HUP := Lib.hid (sound_up hsd hp (hcl rfl))
          have HMK := Lib.hid hmk
          have HBL := Lib.hid hbl
          clear hmk hsd hbl hcl
          go_wp2_with fail
          go_ret
          refine ⟨G, by first | rfl | simp, ?_, ?_⟩
          · have e : rl (fun q => Value.bool (f0 q)) d.k.length = rl (fun q => Value.bool (upB d t p q)) d.k.length := by
              unfold rl
              refine List.map_congr_left fun q hq => ?_
              rw [HUP.out q (List.mem_range.1 hq)]
            have h := HMK.out
            unfold Mk2 at h ⊢
            rw [e] at h
            exact own_base h (by omega)
          · exact HBL0.out.trans (HBL.out.mono (by omega))
        | true =>
          obtain ⟨c0, hc0⟩ : ∃ c0, cf f0 d.k.length = c0 := ⟨_, rfl⟩
          have HC0 := Lib.hid (show mv1 (.bool true) + cnt (falB wo G) d.k.length = c0 + 1 by rw [hmk.cf, hc0]; show 1 + c0 = c0 + 1; omega)
          obtain ⟨g0, g1⟩ := gdCells (HKEEP.out _ hbl).2
          have HMK0 := Lib.hid hmk
          have HSD0 := Lib.hid hsd
          have HBO := Lib.hid hbl
          have HCC := Lib.hid hc0
          clear hmk hsd hbl hcl hc0
          go_wp2_with fail
          go_loopw [11, 46] (fun mv ii wr => ∃ (f : Nat → Bool) (m : Bool) (a : Nat), a ≤ d.k.length ∧ mv = .bool m ∧ ii = .int .i64 (a : Int) ∧ Mk2 wr G G d.k.length f ∧ Sound d t p f ∧ Below G wb wr ∧ cf f d.k.length ≤ c0 ∧ (m = true → cf f d.k.length < c0) ∧ (m = false → ∀ a', a' < a → ∀ b, b < d.k.length → f a' = true → dm d t a' b = true → f b = true)) (fun _ ii _ => d.k.length - (intOf ii).toNat)
          case atStart => exact ⟨f0, false, 0, by omega, rfl, rfl, HMK0.out, HSD0.out, HBO.out, Nat.le_of_eq HCC.out, fun h => (by cases h), fun _ a' h => absurd h (by omega)⟩
          case round =>
            obtain ⟨f, m, a, ha, rfl, rfl, hmk, hsd, hbl, hle, hlt1, hcl⟩ := hrel
            rename World => wa
            by_cases hlt : a < d.k.length
            · obtain ⟨g0, g1⟩ := gdCells (HKEEP.out _ hbl).2
              have HMK := Lib.hid hmk
              have HSD := Lib.hid hsd
              have HBL := Lib.hid hbl
              have HLE := Lib.hid hle
              have HL1 := Lib.hid hlt1
              have HCL := Lib.hid hcl
              have l0 : (0 : Int) ≤ (a : Int) := by omega
              have l1 : (a : Int) < (d.k.length : Int) := by omega
              have l24 : (a : Int) < 24 := by omega
              clear hmk hsd hbl hle hlt1 hcl
              go_wp2_with fail
              go_loopw [11, 52] (fun mv ii wr => ∃ (f : Nat → Bool) (m : Bool) (b : Nat), b ≤ d.k.length ∧ mv = .bool m ∧ ii = .int .i64 (b : Int) ∧ Mk2 wr G G d.k.length f ∧ Sound d t p f ∧ Below G wb wr ∧ cf f d.k.length ≤ c0 ∧ (m = true → cf f d.k.length < c0) ∧ (m = false → (∀ a', a' < a → ∀ b, b < d.k.length → f a' = true → dm d t a' b = true → f b = true) ∧ ∀ b', b' < b → f a = true → dm d t a b' = true → f b' = true)) (fun _ ii _ => d.k.length - (intOf ii).toNat)
              case atStart => exact ⟨f, m, 0, by omega, rfl, rfl, HMK.out, HSD.out, HBL.out, HLE.out, HL1.out, fun h => ⟨HCL.out h, fun b' h' => absurd h' (by omega)⟩⟩
              case round =>
                obtain ⟨f, m, b, hb, rfl, rfl, hmk, hsd, hbl, hle, hlt1, hcl⟩ := hrel
                rename World => wc
                have HMK := Lib.hid hmk
                have HSD := Lib.hid hsd
                have HBL := Lib.hid hbl
                have HLE := Lib.hid hle
                have HL1 := Lib.hid hlt1
                have HCL := Lib.hid hcl
                by_cases hlb : b < d.k.length
                · obtain ⟨pa, -⟩ := hmk.cell hlt
                  obtain ⟨pb, pbf⟩ := hmk.cell hlb
                  obtain ⟨pm, -⟩ := mat_cell (HKEEP.out _ hbl).1 (show a < 24 by omega) (show b < 24 by omega)
                  have m0 : (0 : Int) ≤ (b : Int) := by omega
                  have m1 : (b : Int) < (d.k.length : Int) := by omega
                  have m24 : (b : Int) < 24 := by omega
                  obtain ⟨fa, hfa⟩ : ∃ x, f a = x := ⟨_, rfl⟩
                  obtain ⟨fb, hfb⟩ : ∃ x, f b = x := ⟨_, rfl⟩
                  obtain ⟨mm, hmm⟩ : ∃ x, dm d t a b = x := ⟨_, rfl⟩
                  rw [hfa] at pa
                  rw [hfb] at pb
                  rw [hmm] at pm
                  have HFA := Lib.hid hfa
                  have HFB := Lib.hid hfb
                  have HMM := Lib.hid hmm
                  have HEX := Lib.hid (fun (h : fa = true → mm = true → fb = true) (hm : m = false) => (⟨(hcl hm).1, fun b' hb' h1 h2 => (by
                    by_cases e : b' = b
                    · subst e; exact hfb.trans (h (hfa.symm.trans h1) (hmm.symm.trans h2))
                    · exact (hcl hm).2 b' (by omega) h1 h2)⟩ : (∀ a', a' < a → ∀ b, b < d.k.length → f a' = true → dm d t a' b = true → f b = true) ∧ ∀ b', b' < b + 1 → f a = true → dm d t a b' = true → f b' = true))
                  clear hmk hsd hbl hle hlt1 hcl hfa hfb hmm
                  cases fa with
                  | false =>
                    go_wp2_with fail
                    exact ⟨⟨f, m, b + 1, by omega, rfl, by go_num, HMK.out, HSD.out, HBL.out, HLE.out, HL1.out, HEX.out (fun h => by cases h)⟩, by simp [intOf]; omega⟩
                  | true =>
                    cases mm with
                    | false =>
                      go_wp2_with fail
                      exact ⟨⟨f, m, b + 1, by omega, rfl, by go_num, HMK.out, HSD.out, HBL.out, HLE.out, HL1.out, HEX.out (fun _ h => by cases h)⟩, by simp [intOf]; omega⟩
                    | true =>
                      cases fb with
                      | true =>
                        go_wp2_with fail
                        exact ⟨⟨f, m, b + 1, by omega, rfl, by go_num, HMK.out, HSD.out, HBL.out, HLE.out, HL1.out, HEX.out (fun _ _ => rfl)⟩, by simp [intOf]; omega⟩
                      | false =>
                        have hput := HMK.out.put hlb true
                        have HP := Lib.hid hput.1
                        have HPB := Lib.hid (HBL.out.grown hput.2 (by rw [← hG]; exact HBL.out.size) (fun k e => by cases e; omega))
                        have HPS := Lib.hid (HSD.out.put hp hlt hlb HFA.out HMM.out)
                        have HPC := Lib.hid (cf_put HFB.out d.k.length hlb)
                        clear hput
                        go_wp2_with fail
                        exact ⟨⟨_, true, b + 1, by omega, rfl, by go_num, HP.out, HPS.out, HPB.out, by have := HPC.out; have := HLE.out; omega, fun _ => by have := HPC.out; have := HLE.out; omega, fun h => by cases h⟩, by simp [intOf]; omega⟩
                · obtain rfl : b = d.k.length := by omega
                  clear hmk hsd hbl hle hlt1 hcl
                  go_wp2_with fail
                  exact ⟨⟨f, m, a + 1, by omega, rfl, by go_num, HMK.out, HSD.out, HBL.out, HLE.out, HL1.out, fun hm a' ha' b hb h1 h2 => by
                    by_cases e : a' = a
                    · subst e; exact (HCL.out hm).2 b hb h1 h2
                    · exact (HCL.out hm).1 a' (by omega) b hb h1 h2⟩, by simp [intOf]; omega⟩
            · obtain rfl : a = d.k.length := by omega
              have HMS := Lib.hid hmk.cf
              have HMK := Lib.hid hmk
              have HSD := Lib.hid hsd
              have HBL := Lib.hid hbl
              have HLE := Lib.hid hle
              have HL1 := Lib.hid hlt1
              have HCL := Lib.hid hcl
              clear hmk hsd hbl hle hlt1 hcl
              go_wp2_with fail
              refine ⟨⟨f, m, rfl, HMK.out, HSD.out, HBL.out, fun hm a ha b hb => HCL.out hm a ha b hb⟩, ?_⟩
              rw [HC0.out, HMS.out]
              cases m with
              | true => have := HL1.out rfl; show 1 + _ < _; omega
              | false => have := HLE.out; show 0 + _ < _; omega

end Go.Proofs.Ytgknfkmojhganaa.Di
