import Derived.Test.YtgknfkmojhganaaGreatRdAll
import Derived.Test.YtgknfkmojhganaaGreatDjN

namespace Go.Proofs.YtgknfkmojhganaaGreat.Di
open Go.RowKit
open Go.Proofs.YtgknfkmojhganaaGreat.Tp
set_option linter.unusedVariables false
set_option linter.unusedSimpArgs false

/-- Twenty-four times twenty-four bools, as cells. -/
def mat (F : Nat → Nat → Bool) : Array Value := (rl (fun i => Value.bool (F (i / 24) (i % 24))) 576).toArray
theorem zero97 (w : World) : (zeroValue 128).run Tryz.prog w = .ok (.agg (mat (fun _ _ => false))) w := by kernel_rfl
theorem mat_idx {p q : Nat} (hp : p < 24) (hq : q < 24) : p * 24 + q < 576 ∧ (p * 24 + q) / 24 = p ∧ (p * 24 + q) % 24 = q := by omega
set_option maxRecDepth 20000 in
theorem mat_cell {w : World} {X p q : Nat} {F : Nat → Nat → Bool} {t : TypeId} (h : w.heap[X]? = some (.cells (mat F) t (0, 0))) (hp : p < 24) (hq : q < 24) : w.cell? ⟨X, p * 24 + q, none⟩ = some (.bool (F p q)) ∧ w.frozen? ⟨X, p * 24 + q, none⟩ = false := by
  obtain ⟨h1, h2, h3⟩ := mat_idx hp hq
  refine ⟨?_, frozen_of_row _ _ _ _ _ h⟩
  rw [cell_of_row _ _ _ _ _ _ h]
  unfold mat
  rw [List.getElem?_toArray, rl_at _ _ _ h1, h2, h3]
set_option maxRecDepth 20000 in
theorem mat_put {w : World} {X p q : Nat} {F : Nat → Nat → Bool} {t : TypeId} (b : Bool) (h : w.heap[X]? = some (.cells (mat F) t (0, 0))) (hp : p < 24) (hq : q < 24) : w.setCell ⟨X, p * 24 + q, none⟩ (.bool b) = w.setRow X (mat (fun a c => if a = p ∧ c = q then b else F a c)) := by
  obtain ⟨h1, h2, h3⟩ := mat_idx hp hq
  rw [setCell_eq_setRow _ _ _ _ _ _ _ h]
  congr 1
  unfold mat
  rw [List.setIfInBounds_toArray]
  congr 1
  rw [rl_set _ _ _ _ h1]
  congr 1
  funext a
  by_cases e : a = p * 24 + q
  · subst e
    rw [if_pos rfl, h2, h3]
    exact congrArg Value.bool (if_pos (⟨rfl, rfl⟩ : p = p ∧ q = q)).symm
  · rw [if_neg e]
    exact congrArg Value.bool (if_neg (fun h => e (by omega))).symm
theorem mat_congr {F G : Nat → Nat → Bool} (h : ∀ p q, F p q = G p q) : mat F = mat G := by
  have : F = G := funext fun p => funext fun q => h p q
  rw [this]
/-- How many are not reached yet. -/
def cf (f : Nat → Bool) (n : Nat) : Nat := cnt (fun q => !f q) n
def falB (W : World) (G q : Nat) : Bool := match W.cell? ⟨G, q, none⟩ with | some (.bool false) => true | _ => false
theorem cnt_cong {f g : Nat → Bool} : ∀ n, (∀ i, i < n → f i = g i) → cnt f n = cnt g n
  | 0, _ => rfl
  | n + 1, h => by
    have h1 := cnt_cong n (fun i hi => h i (by omega))
    have h2 := h n (by omega)
    cases hg : g n with
    | true => rw [cnt_tt (h2.trans hg), cnt_tt hg, h1]
    | false => rw [cnt_ff (h2.trans hg), cnt_ff hg, h1]
theorem cf_put {f : Nat → Bool} {b : Nat} (hf : f b = false) : ∀ n, b < n → cf (fun q => if q = b then true else f q) n + 1 = cf f n
  | 0, h => absurd h (by omega)
  | n + 1, h => by
    unfold cf
    by_cases e : b = n
    · subst e
      rw [cnt_ff (q := fun q => !(if q = b then true else f q)) (by simp), cnt_tt (q := fun q => !f q) (by simp [hf])]
      rw [cnt_cong b (fun i hi => by rw [if_neg (show ¬ i = b by omega)])]
    · have ih := cf_put hf n (by omega)
      have ih : cnt (fun q => !(if q = b then true else f q)) n + 1 = cnt (fun q => !f q) n := ih
      cases hn : f n with
      | true => rw [cnt_ff (q := fun q => !(if q = b then true else f q)) (by simp [hn]), cnt_ff (q := fun q => !f q) (by simp [hn])]; exact ih
      | false => rw [cnt_tt (q := fun q => !(if q = b then true else f q)) (by rw [if_neg (fun h => e h.symm)]; simp [hn]), cnt_tt (q := fun q => !f q) (by simp [hn])]; omega
/-- Marks in memory. -/
def Mk2 (W : World) (B G n : Nat) (f : Nat → Bool) : Prop := W.ownsRow B 4 1 (.slice (some ⟨G, 0, none⟩) n n) n (rl (fun q => Value.bool (f q)) n)
theorem Mk2.cell {W : World} {B G n : Nat} {f : Nat → Bool} (h : Mk2 W B G n f) {q : Nat} (hq : q < n) : W.cell? ⟨G, q, none⟩ = some (.bool (f q)) ∧ W.frozen? ⟨G, q, none⟩ = false := by
  obtain ⟨h1, h2, -, -⟩ := own_put (u := .bool true) h hq
  rw [rl_at _ _ _ hq] at h1
  exact ⟨h1, h2⟩
theorem Mk2.put {W : World} {B G n : Nat} {f : Nat → Bool} (h : Mk2 W B G n f) {q : Nat} (hq : q < n) (b : Bool) : Mk2 (W.setCell ⟨G, q, none⟩ (.bool b)) B G n (fun a => if a = q then b else f a) ∧ W.grownBy (W.setCell ⟨G, q, none⟩ (.bool b)) (some G) := by
  obtain ⟨-, -, h3, h4⟩ := own_put (u := .bool b) h hq
  rw [rl_set _ _ _ _ hq] at h3
  refine ⟨?_, h4⟩
  have e : (fun j => if j = q then Value.bool b else Value.bool (f j)) = fun j => Value.bool (if j = q then b else f j) := by
    funext j
    split <;> rfl
  rw [e] at h3
  exact h3
theorem Mk2.cf {W : World} {B G n : Nat} {f : Nat → Bool} (h : Mk2 W B G n f) : cnt (falB W G) n = cf f n := cnt_cong n fun q hq => by
  unfold falB
  rw [(h.cell hq).1]
  cases f q <;> rfl
def mv1 (v : Value) : Nat := match v with | .bool true => 1 | _ => 0
/-- What is reached is reached. -/
def Sound (d : Dy) (t p : Nat) (f : Nat → Bool) : Prop := f p = true ∧ ∀ q, q < d.k.length → f q = true → Rc d t p q
theorem Sound.put {d : Dy} {t p a b : Nat} {f : Nat → Bool} (h : Sound d t p f) (hp : p < d.k.length) (ha : a < d.k.length) (hb : b < d.k.length) (hfa : f a = true) (hm : dm d t a b = true) : Sound d t p (fun q => if q = b then true else f q) := by
  refine ⟨by show (if p = b then true else f p) = true; split <;> simp [h.1], fun q hq hf => ?_⟩
  have hf : (if q = b then true else f q) = true := hf
  by_cases e : q = b
  · rw [e]; exact .step (h.2 a ha hfa) ha hb hm
  · rw [if_neg e] at hf; exact h.2 q hq hf
theorem sound_up {d : Dy} {t p : Nat} {f : Nat → Bool} (h : Sound d t p f) (hp : p < d.k.length) (hc : ∀ a, a < d.k.length → ∀ b, b < d.k.length → f a = true → dm d t a b = true → f b = true) (q : Nat) (hq : q < d.k.length) : f q = upB d t p q := by
  apply Bool.eq_iff_iff.2
  rw [upB_iff]
  refine ⟨fun hf => ⟨hp, h.2 q hq hf⟩, fun ⟨_, hr⟩ => ?_⟩
  have key : q < d.k.length → f q = true := closed_has (M := dm d t) (n := d.k.length) (S := fun a => a < d.k.length → f a = true) (fun a hs ha b hb hm _ => hc a ha b hb (hs ha) hm) (fun _ => h.1) hr
  exact key hq
def UpsPost (d : Dy) (t p : Nat) (w : World) (e : Ending) (w' : World) : Prop := ∃ G, e = .returned (.slice (some ⟨G, 0, none⟩) d.k.length d.k.length) ∧ Mk2 w' w.heap.size G d.k.length (upB d t p) ∧ Below w.heap.size w w'
theorem mat_one (F : Nat → Nat → Bool) : (mat F).all (·.oneCell') = true := by
  rw [Array.all_eq_true']
  intro x hx
  unfold mat rl at hx
  simp at hx
  obtain ⟨i, -, rfl⟩ := hx
  rfl
set_option maxRecDepth 100000 in
set_option maxHeartbeats 8000000 in
theorem ups_any (d : Dy) (v : Vd) (p t : Nat) (w : World) (h : DL w 0 d v) (hok : Ok d) (hp : p < d.k.length) :
    Calls Tryz.prog 58 #[.agg (gd d v), .int .i64 (p : Int), .int .i64 (t : Int)] w (UpsPost d t p w) := by
  obtain ⟨A1, k1, A2, k2⟩ := v
  have hn := hok.n
  have hm := hok.m
  have hz := zero97
  have hbx := (box_below w (.cells (gd d ⟨A1, k1, A2, k2⟩) 25)).trans ((box_below (w.alloc (.cells (gd d ⟨A1, k1, A2, k2⟩) 25)) (.cells (mat (fun _ _ => false)) 128)).mono (by simp))
  have HBX := Lib.hid hbx
  have D1 := Lib.hid (heap_alloc2_old w (.cells (gd d ⟨A1, k1, A2, k2⟩) 25) (.cells (mat (fun _ _ => false)) 128))
  have M1 := Lib.hid (heap_alloc2_new w (.cells (gd d ⟨A1, k1, A2, k2⟩) 25) (.cells (mat (fun _ _ => false)) 128))
  have HD := Lib.hid (h.below hbx)
  have HOK := Lib.hid hok
  obtain ⟨g0, g1⟩ := gdCells D1.out
  have lD := row_lt D1.out
  have lM := row_lt M1.out
  have HDM := Lib.hid (show ∀ a c, dmk d t a c d.e.length = dm d t a c from fun _ _ => rfl)
  have HSK := Lib.hid (show ∀ a c k, dmk d t a c (k + 1) = if hitm (eg d k) t a c then (eg d k).k == 1 else dmk d t a c k from fun _ _ _ => rfl)
  have HD0 := Lib.hid h
  clear h hok hbx
  go_enter Tryz.func58, Tryz.ntmps58
  go_wp2_with fail
  go_loopw [17] (fun ii wr => ∃ k : Nat, k ≤ d.e.length ∧ ii = .int .i64 (k : Int) ∧ wr.heap[w.heap.size + 1]? = some (.cells (mat (fun a c => dmk d t a c k)) 128 (0, 0)) ∧ wr.heap[w.heap.size]? = some (.cells (gd d ⟨A1, k1, A2, k2⟩) 25 (0, 0)) ∧ Below w.heap.size w wr) (fun ii _ => d.e.length - (intOf ii).toNat)
  case atStart => exact ⟨0, by omega, rfl, M1.out, D1.out, HBX.out⟩
  case round =>
    obtain ⟨k, hk, rfl, hmt, hdd, hbl⟩ := hrel
    have HMT := Lib.hid hmt
    have HDD := Lib.hid hdd
    have HBL := Lib.hid hbl
    by_cases hlt : k < d.e.length
    · obtain ⟨b, off, hA, -, hbk, y0, y1, y2, y3⟩ := (HD0.out.below hbl).r2.evt hlt
      have hA : A2 = some ⟨b, off, none⟩ := hA
      subst hA
      rw [show d.e.getD k m0 = eg d k from rfl] at y0 y1 y2 y3
      have hev := HOK.out.e k hlt
      have HS := Lib.hid (fun a c => HSK.out a c k)
      have HIT := Lib.hid (fun a c => hitm_iff (eg d k) t a c)
      generalize eg d k = x at *
      obtain ⟨xt, xk, xp, xg⟩ := x
      obtain ⟨a1, a2, a3, a4, a5, a6⟩ := hev
      simp only at y0 y1 y2 y3 a1 a2 a3 a4 a5 a6
      have hbx := box_below wr (.cells #[.int .i64 (xt : Int), .int .i64 (xk : Int), .int .i64 (xp : Int), .int .i64 (xg : Int)] 79)
      have XN := Lib.hid (heap_alloc_new wr (.cells #[.int .i64 (xt : Int), .int .i64 (xk : Int), .int .i64 (xp : Int), .int .i64 (xg : Int)] 79))
      have n0 : (wr.alloc (.cells #[.int .i64 (xt : Int), .int .i64 (xk : Int), .int .i64 (xp : Int), .int .i64 (xg : Int)] 79)).cell? ⟨wr.heap.size, 0, none⟩ = some (.int .i64 (xt : Int)) := by rw [cell_of_row _ _ _ _ _ _ XN.out]; rfl
      have n1 : (wr.alloc (.cells #[.int .i64 (xt : Int), .int .i64 (xk : Int), .int .i64 (xp : Int), .int .i64 (xg : Int)] 79)).cell? ⟨wr.heap.size, 1, none⟩ = some (.int .i64 (xk : Int)) := by rw [cell_of_row _ _ _ _ _ _ XN.out]; rfl
      have n2 : (wr.alloc (.cells #[.int .i64 (xt : Int), .int .i64 (xk : Int), .int .i64 (xp : Int), .int .i64 (xg : Int)] 79)).cell? ⟨wr.heap.size, 2, none⟩ = some (.int .i64 (xp : Int)) := by rw [cell_of_row _ _ _ _ _ _ XN.out]; rfl
      have n3 : (wr.alloc (.cells #[.int .i64 (xt : Int), .int .i64 (xk : Int), .int .i64 (xp : Int), .int .i64 (xg : Int)] 79)).cell? ⟨wr.heap.size, 3, none⟩ = some (.int .i64 (xg : Int)) := by rw [cell_of_row _ _ _ _ _ _ XN.out]; rfl
      have MX := (hbx.block _ (row_lt hmt)).trans hmt
      have DX := Lib.hid ((hbx.block _ (row_lt hdd)).trans hdd)
      have BX := Lib.hid (hbl.trans (hbx.mono hbl.size))
      obtain ⟨mc1, mc2⟩ := mat_cell MX (show xp < 24 by omega) (show xg < 24 by omega)
      have HPUT := Lib.hid (mat_put ((xk : Int) == 1) MX (show xp < 24 by omega) (show xg < 24 by omega))
      have MXH := Lib.hid MX
      have i0 : (0 : Int) ≤ (k : Int) := by omega
      have i1 : (k : Int) < (d.e.length : Int) := by omega
      have p0 : (0 : Int) ≤ (xp : Int) := by omega
      have p1 : (xp : Int) < 24 := by omega
      have q0 : (0 : Int) ≤ (xg : Int) := by omega
      have q1 : (xg : Int) < 24 := by omega
      clear hbx hbl hmt hdd MX
      by_cases ht : xt ≤ t
      · have d1 : decide ((xt : Int) ≤ (t : Int)) = true := decide_eq_true (by omega)
        go_wp2_with fail
        go_region
        go_wp2_with fail
        have hF : mat (fun a c => if a = xp ∧ c = xg then ((xk : Int) == 1) else dmk d t a c k) = mat (fun a c => dmk d t a c (k + 1)) := mat_congr fun a c => by
          have h1 := HS.out a c
          have h2 := HIT.out a c
          rw [h1]
          by_cases e : a = xp ∧ c = xg
          · rw [if_pos e, if_pos (h2.2 ⟨ht, e.1.symm, e.2.symm⟩)]
            show ((xk : Int) == 1) = (xk == 1)
            by_cases e1 : xk = 1
            · rw [e1]; rfl
            · rw [beq_eq_false_iff_ne.2 e1, beq_eq_false_iff_ne.2 (by omega)]
          · rw [if_neg e, if_neg (fun h => e ⟨(h2.1 h).2.1.symm, (h2.1 h).2.2.symm⟩)]
        have hW := HPUT.out
        rw [hF] at hW
        rw [hW]
        exact ⟨⟨k + 1, by omega, by go_num, setRow_heap _ _ _ _ _ _ MXH.out, ((gb_setRow _ _ _).block w.heap.size (row_lt DX.out) (by simp)).trans DX.out, (below_setRow BX.out (by omega) _).drew⟩, by simp [intOf]; omega⟩
      · have d1 : decide ((xt : Int) ≤ (t : Int)) = false := decide_eq_false (by omega)
        have HF := Lib.hid (show mat (fun a c => dmk d t a c (k + 1)) = mat (fun a c => dmk d t a c k) from mat_congr fun a c => (HS.out a c).trans (if_neg (fun h => ht ((HIT.out a c).1 h).1)))
        go_wp2_with fail
        exact ⟨⟨k + 1, by omega, by go_num, by rw [HF.out]; exact MXH.out, DX.out, BX.out⟩, by simp [intOf]; omega⟩
    · obtain rfl : k = d.e.length := by omega
      obtain ⟨j0, hj1, hy0, hy1, hy2⟩ := info_parts (show (Tryz.prog.info? 4).map (fun i => (i.zero, i.size, i.bytes)) = some (some (.bool false), 1, 1) by kernel_rfl)
      have HJ := Lib.hid hj1
      have HJ0 := Lib.hid hy0
      have HJ1 := Lib.hid hy1
      have HJ2 := Lib.hid hy2
      rw [mat_congr (fun a c => HDM.out a c)] at hmt
      have HMT2 := Lib.hid hmt
      rename World => wb
      have HBL0 := Lib.hid HBL.out
      have lB : w.heap.size + 1 < wb.heap.size := row_lt hmt
      obtain ⟨g0, g1⟩ := gdCells hdd
      have n0 : (0 : Int) ≤ (p : Int) := by omega
      have n1 : (p : Int) < (d.k.length : Int) := by omega
      clear hj1 hy0 hy1 hy2 hmt hbl HMT
      go_wp2_with (at_make; refine wpList_make_full _ rfl _ _ 96 rfl wb.heap.size 4 j0 (.bool false) 1 Tryz.underlying96 HJ.out HJ0.out HJ1.out .i64 .i64 _ _ d.k.length rfl rfl rfl rfl (by rw [HJ2.out]; omega) (by unfold maxLen; omega) (Nat.le_refl _) ?_; intro w2 hown hgr; have hrow : Mk2 w2 wb.heap.size wb.heap.size d.k.length (fun _ => false) := (by have e := hown; rw [show Value.cells (.bool false) = #[.bool false] from rfl, made_cells] at e; exact e); have HROW := Lib.hid hrow; have HB2 := Lib.hid ((Below.refl wb.heap.size wb).grown hgr (Nat.le_refl _) (fun k e => by cases e)); obtain ⟨pc, pf⟩ := hrow.cell hp; clear hown hgr hrow g0 g1)
      have hput := HROW.out.put hp true
      have HP1 := Lib.hid hput.1
      have HBP := Lib.hid (HB2.out.grown hput.2 HB2.out.size (fun k e => by cases e; exact Nat.le_refl _))
      have HS0 := Lib.hid (show Sound d t p (fun a => if a = p then true else false) from ⟨if_pos rfl, fun q hq hf => by
        by_cases e : q = p
        · rw [e]; exact .here
        · have hf : (if q = p then true else false) = true := hf
          rw [if_neg e] at hf; cases hf⟩)
      clear hput pc pf
      generalize w2.setCell ⟨wb.heap.size, p, none⟩ (.bool true) = w3 at *
      generalize hG : wb.heap.size = G at *
      have HKEEP := Lib.hid (fun wr (hb : Below G wb wr) => (⟨(hb.block _ (by omega)).trans HMT2.out, (hb.block _ (by omega)).trans HDD.out⟩ : wr.heap[w.heap.size + 1]? = some (.cells (mat (fun a c => dm d t a c)) 128 (0, 0)) ∧ wr.heap[w.heap.size]? = some (.cells (gd d ⟨A1, k1, A2, k2⟩) 25 (0, 0))))
      go_loopw [11] (fun mv wr => ∃ (f : Nat → Bool) (m : Bool), mv = .bool m ∧ Mk2 wr G G d.k.length f ∧ Sound d t p f ∧ Below G wb wr ∧ (m = false → ∀ a, a < d.k.length → ∀ b, b < d.k.length → f a = true → dm d t a b = true → f b = true)) (fun mv wr => mv1 mv + cnt (falB wr G) d.k.length)
      case atStart => exact ⟨_, true, rfl, HP1.out, HS0.out, HBP.out, fun h => by cases h⟩
      case round =>
        obtain ⟨f0, m, rfl, hmk, hsd, hbl, hcl⟩ := hrel
        rename World => wo
        cases m with
        | false =>
          have HUP := Lib.hid (sound_up hsd hp (hcl rfl))
          have HMK := Lib.hid hmk
          have HBL := Lib.hid hbl
          clear hmk hsd hbl hcl
          go_wp2_with fail
          go_ret
          refine ⟨G, by first | rfl | simp, ?_, ?_⟩
          · have e : rl (fun q => Value.bool (f0 q)) d.k.length = rl (fun q => Value.bool (upB d t p q)) d.k.length := by
              unfold rl
              refine List.map_congr_left fun q hq => ?_
              rw [HUP.out q (List.mem_range.1 hq)]
            have h := HMK.out
            unfold Mk2 at h ⊢
            rw [e] at h
            exact own_base h (by omega)
          · exact HBL0.out.trans (HBL.out.mono (by omega))
        | true =>
          obtain ⟨c0, hc0⟩ : ∃ c0, cf f0 d.k.length = c0 := ⟨_, rfl⟩
          have HC0 := Lib.hid (show mv1 (.bool true) + cnt (falB wo G) d.k.length = c0 + 1 by rw [hmk.cf, hc0]; show 1 + c0 = c0 + 1; omega)
          obtain ⟨g0, g1⟩ := gdCells (HKEEP.out _ hbl).2
          have HMK0 := Lib.hid hmk
          have HSD0 := Lib.hid hsd
          have HBO := Lib.hid hbl
          have HCC := Lib.hid hc0
          clear hmk hsd hbl hcl hc0
          go_wp2_with fail
          go_loopw [11, 46] (fun mv ii wr => ∃ (f : Nat → Bool) (m : Bool) (a : Nat), a ≤ d.k.length ∧ mv = .bool m ∧ ii = .int .i64 (a : Int) ∧ Mk2 wr G G d.k.length f ∧ Sound d t p f ∧ Below G wb wr ∧ cf f d.k.length ≤ c0 ∧ (m = true → cf f d.k.length < c0) ∧ (m = false → ∀ a', a' < a → ∀ b, b < d.k.length → f a' = true → dm d t a' b = true → f b = true)) (fun _ ii _ => d.k.length - (intOf ii).toNat)
          case atStart => exact ⟨f0, false, 0, by omega, rfl, rfl, HMK0.out, HSD0.out, HBO.out, Nat.le_of_eq HCC.out, fun h => (by cases h), fun _ a' h => absurd h (by omega)⟩
          case round =>
            obtain ⟨f, m, a, ha, rfl, rfl, hmk, hsd, hbl, hle, hlt1, hcl⟩ := hrel
            rename World => wa
            by_cases hlt : a < d.k.length
            · obtain ⟨g0, g1⟩ := gdCells (HKEEP.out _ hbl).2
              have HMK := Lib.hid hmk
              have HSD := Lib.hid hsd
              have HBL := Lib.hid hbl
              have HLE := Lib.hid hle
              have HL1 := Lib.hid hlt1
              have HCL := Lib.hid hcl
              have l0 : (0 : Int) ≤ (a : Int) := by omega
              have l1 : (a : Int) < (d.k.length : Int) := by omega
              have l24 : (a : Int) < 24 := by omega
              clear hmk hsd hbl hle hlt1 hcl
              go_wp2_with fail
              go_loopw [11, 52] (fun mv ii wr => ∃ (f : Nat → Bool) (m : Bool) (b : Nat), b ≤ d.k.length ∧ mv = .bool m ∧ ii = .int .i64 (b : Int) ∧ Mk2 wr G G d.k.length f ∧ Sound d t p f ∧ Below G wb wr ∧ cf f d.k.length ≤ c0 ∧ (m = true → cf f d.k.length < c0) ∧ (m = false → (∀ a', a' < a → ∀ b, b < d.k.length → f a' = true → dm d t a' b = true → f b = true) ∧ ∀ b', b' < b → f a = true → dm d t a b' = true → f b' = true)) (fun _ ii _ => d.k.length - (intOf ii).toNat)
              case atStart => exact ⟨f, m, 0, by omega, rfl, rfl, HMK.out, HSD.out, HBL.out, HLE.out, HL1.out, fun h => ⟨HCL.out h, fun b' h' => absurd h' (by omega)⟩⟩
              case round =>
                obtain ⟨f, m, b, hb, rfl, rfl, hmk, hsd, hbl, hle, hlt1, hcl⟩ := hrel
                rename World => wc
                have HMK := Lib.hid hmk
                have HSD := Lib.hid hsd
                have HBL := Lib.hid hbl
                have HLE := Lib.hid hle
                have HL1 := Lib.hid hlt1
                have HCL := Lib.hid hcl
                by_cases hlb : b < d.k.length
                · obtain ⟨pa, -⟩ := hmk.cell hlt
                  obtain ⟨pb, pbf⟩ := hmk.cell hlb
                  obtain ⟨pm, -⟩ := mat_cell (HKEEP.out _ hbl).1 (show a < 24 by omega) (show b < 24 by omega)
                  have m0 : (0 : Int) ≤ (b : Int) := by omega
                  have m1 : (b : Int) < (d.k.length : Int) := by omega
                  have m24 : (b : Int) < 24 := by omega
                  obtain ⟨fa, hfa⟩ : ∃ x, f a = x := ⟨_, rfl⟩
                  obtain ⟨fb, hfb⟩ : ∃ x, f b = x := ⟨_, rfl⟩
                  obtain ⟨mm, hmm⟩ : ∃ x, dm d t a b = x := ⟨_, rfl⟩
                  rw [hfa] at pa
                  rw [hfb] at pb
                  rw [hmm] at pm
                  have HFA := Lib.hid hfa
                  have HFB := Lib.hid hfb
                  have HMM := Lib.hid hmm
                  have HEX := Lib.hid (fun (h : fa = true → mm = true → fb = true) (hm : m = false) => (⟨(hcl hm).1, fun b' hb' h1 h2 => (by
                    by_cases e : b' = b
                    · subst e; exact hfb.trans (h (hfa.symm.trans h1) (hmm.symm.trans h2))
                    · exact (hcl hm).2 b' (by omega) h1 h2)⟩ : (∀ a', a' < a → ∀ b, b < d.k.length → f a' = true → dm d t a' b = true → f b = true) ∧ ∀ b', b' < b + 1 → f a = true → dm d t a b' = true → f b' = true))
                  clear hmk hsd hbl hle hlt1 hcl hfa hfb hmm
                  cases fa with
                  | false =>
                    go_wp2_with fail
                    exact ⟨⟨f, m, b + 1, by omega, rfl, by go_num, HMK.out, HSD.out, HBL.out, HLE.out, HL1.out, HEX.out (fun h => by cases h)⟩, by simp [intOf]; omega⟩
                  | true =>
                    cases mm with
                    | false =>
                      go_wp2_with fail
                      exact ⟨⟨f, m, b + 1, by omega, rfl, by go_num, HMK.out, HSD.out, HBL.out, HLE.out, HL1.out, HEX.out (fun _ h => by cases h)⟩, by simp [intOf]; omega⟩
                    | true =>
                      cases fb with
                      | true =>
                        go_wp2_with fail
                        exact ⟨⟨f, m, b + 1, by omega, rfl, by go_num, HMK.out, HSD.out, HBL.out, HLE.out, HL1.out, HEX.out (fun _ _ => rfl)⟩, by simp [intOf]; omega⟩
                      | false =>
                        have hput := HMK.out.put hlb true
                        have HP := Lib.hid hput.1
                        have HPB := Lib.hid (HBL.out.grown hput.2 (by rw [← hG]; exact HBL.out.size) (fun k e => by cases e; omega))
                        have HPS := Lib.hid (HSD.out.put hp hlt hlb HFA.out HMM.out)
                        have HPC := Lib.hid (cf_put HFB.out d.k.length hlb)
                        clear hput
                        go_wp2_with fail
                        exact ⟨⟨_, true, b + 1, by omega, rfl, by go_num, HP.out, HPS.out, HPB.out, by have := HPC.out; have := HLE.out; omega, fun _ => by have := HPC.out; have := HLE.out; omega, fun h => by cases h⟩, by simp [intOf]; omega⟩
                · obtain rfl : b = d.k.length := by omega
                  clear hmk hsd hbl hle hlt1 hcl
                  go_wp2_with fail
                  exact ⟨⟨f, m, a + 1, by omega, rfl, by go_num, HMK.out, HSD.out, HBL.out, HLE.out, HL1.out, fun hm a' ha' b hb h1 h2 => by
                    by_cases e : a' = a
                    · subst e; exact (HCL.out hm).2 b hb h1 h2
                    · exact (HCL.out hm).1 a' (by omega) b hb h1 h2⟩, by simp [intOf]; omega⟩
            · obtain rfl : a = d.k.length := by omega
              have HMS := Lib.hid hmk.cf
              have HMK := Lib.hid hmk
              have HSD := Lib.hid hsd
              have HBL := Lib.hid hbl
              have HLE := Lib.hid hle
              have HL1 := Lib.hid hlt1
              have HCL := Lib.hid hcl
              clear hmk hsd hbl hle hlt1 hcl
              go_wp2_with fail
              refine ⟨⟨f, m, rfl, HMK.out, HSD.out, HBL.out, fun hm a ha b hb => HCL.out hm a ha b hb⟩, ?_⟩
              rw [HC0.out, HMS.out]
              cases m with
              | true => have := HL1.out rfl; show 1 + _ < _; omega
              | false => have := HLE.out; show 0 + _ < _; omega

end Go.Proofs.YtgknfkmojhganaaGreat.Di

namespace Go.Proofs.YtgknfkmojhganaaGreat.Di
open Go.RowKit
open Go.Proofs.YtgknfkmojhganaaGreat.Tp
set_option linter.unusedVariables false
set_option linter.unusedSimpArgs false

theorem idx_filter (q r : Nat → Bool) : ∀ n, (idx q n).filter r = idx (fun i => q i && r i) n
  | 0 => rfl
  | n + 1 => by
    have ih := idx_filter q r n
    cases hq : q n with
    | true =>
      rw [idx_tt hq, List.filter_append, ih]
      cases hr : r n with
      | true => rw [idx_tt (q := fun i => q i && r i) (by simp [hq, hr])]; simp [hr]
      | false => rw [idx_ff (q := fun i => q i && r i) (by simp [hq, hr])]; simp [hr]
    | false => rw [idx_ff hq, idx_ff (q := fun i => q i && r i) (by simp [hq]), ih]
/-- The groups in which a principal is. -/
noncomputable def grB (d : Dy) (t p g : Nat) : Bool := upB d t p g && g != p
theorem upB_out {d : Dy} {t p : Nat} (hp : ¬ p < d.k.length) (q : Nat) : upB d t p q = false := by
  cases h : upB d t p q with
  | false => rfl
  | true => exact absurd ((upB_iff d t p q).1 h).1 hp
theorem in_up {d : Dy} (h : Ok d) {t p q : Nat} (hp : p < d.k.length) (hq : q < d.k.length) : (p == q || (gB d q && grB d t p q)) = upB d t p q := by
  apply Bool.eq_iff_iff.2
  unfold grB
  rw [Bool.or_eq_true, Bool.and_eq_true, Bool.and_eq_true, beq_iff_eq, upB_iff]
  constructor
  · rintro (rfl | ⟨-, h2, -⟩)
    · exact ⟨hp, .here⟩
    · exact h2
  · rintro ⟨-, hr⟩
    rcases rc_group h hr with e | ⟨e1, e2⟩
    · exact .inl e.symm
    · by_cases e : p = q
      · exact .inl e
      · refine .inr ⟨?_, ⟨hp, hr⟩, bne_iff_ne.2 (Ne.symm e)⟩
        unfold gB
        rw [decide_eq_true e1, Bool.true_and]
        exact beq_iff_eq.2 e2
set_option maxRecDepth 100000 in
set_option maxHeartbeats 4000000 in
/-- The reference's Upward. -/
theorem rupw_any (d : Dy) (v : Vd) (p t : Nat) (w : World) (h : DL w 0 d v) (hok : Ok d) :
    Calls Tryz.prog 23 #[.agg (gd d v), .int .i64 (p : Int), .int .i64 (t : Int)] w (SmPost (upB d t p) d.k.length w) := by
  have hn := hok.n
  have HB0 := Lib.hid (box_below w (.cells (gd d v) 25))
  have R0 := Lib.hid (heap_alloc_new w (.cells (gd d v) 25))
  have HVA := Lib.hid (rvalid_any d v _ (h.below HB0.out) hok)
  have HEX := Lib.hid (fun w' => rexists_any d v p w' (by omega))
  have HFD := Lib.hid (show (#[.slice v.A1 d.k.length v.c1, .slice v.A2 d.e.length v.c2] : Array Value) = gd d v from rfl)
  obtain ⟨g0, g1⟩ := gdCells R0.out
  have lR := row_lt R0.out
  obtain ⟨i0, hi1, hz0, hz1, hz2⟩ := info_parts zinfo3
  have HI := Lib.hid hi1
  have HI0 := Lib.hid hz0
  have HI1 := Lib.hid hz1
  have HI2 := Lib.hid hz2
  clear hi1 hz0 hz1 hz2
  by_cases hp : p < d.k.length
  · have hups := fun w' (hb : Below w.heap.size w w') => ups_any d v p t w' (h.below hb) hok hp
    unfold UpsPost at hups
    have HUP := Lib.hid hups
    rw [decide_eq_true hp] at HEX
    clear h hok hups
    go_enter Tryz.func23, Tryz.ntmps23
    go_wp2_with (first
      | (go_at_call 41; rw [HFD.out]; refine HVA.out.mono ?_; rintro e w1 ⟨rfl, hb1⟩; have B1 := Lib.hid (HB0.out.trans (hb1.mono HB0.out.size)); have D1 := Lib.hid ((hb1.block _ lR).trans R0.out); clear hb1 g0 g1; obtain ⟨g0, g1⟩ := gdCells D1.out)
      | (go_at_call 57; rw [HFD.out]; refine (HEX.out _).mono ?_; rintro e w2 ⟨rfl, hb2⟩; have B2 := Lib.hid (B1.out.trans (hb2.mono B1.out.size)); have D2 := Lib.hid ((hb2.block _ (row_lt D1.out)).trans D1.out); clear hb2 g0 g1; obtain ⟨g0, g1⟩ := gdCells D2.out)
      | (go_at_call 58; rw [HFD.out]; refine (HUP.out _ B2.out).mono ?_; rintro e w3 ⟨G, rfl, hmk, hb3⟩; have B3 := Lib.hid (B2.out.trans (hb3.mono B2.out.size)); have HMK := Lib.hid hmk; clear hmk hb3 g0 g1))
    generalize upB d t p = m at *
    go_loopw [7, 24] (fun ov ii wr => ∃ (k : Nat) (A' : Option Addr) (c' : Nat), k ≤ d.k.length ∧ ov = .slice A' (cnt m k) c' ∧ ii = .int .i64 (k : Int) ∧ wr.ownsRow w3.heap.size 3 1 (.slice A' (cnt m k) c') (cnt m k) (iv (idx m k)) ∧ Below w3.heap.size w3 wr) (fun _ ii _ => d.k.length - (intOf ii).toNat)
    case atStart => exact ⟨0, none, 0, by omega, rfl, rfl, own_nil _ _ _ _, Below.refl _ _⟩
    case round =>
      obtain ⟨k, A', c', hk, rfl, rfl, hown, hbl⟩ := hrel
      have HO := Lib.hid hown
      have HBL := Lib.hid hbl
      have hcn := cnt_le m k
      have hsz := hbl.size
      by_cases hlt : k < d.k.length
      · obtain ⟨pc, -⟩ := (show Mk2 wr w2.heap.size G d.k.length m from own_below HMK.out hbl).cell hlt
        have k0 : (0 : Int) ≤ (k : Int) := by omega
        have k1 : (k : Int) < (d.k.length : Int) := by omega
        have HIT := Lib.hid (fun h => (idx_tt h : idx m (k + 1) = idx m k ++ [k]))
        have HIF := Lib.hid (fun h => (idx_ff h : idx m (k + 1) = idx m k))
        have HCT := Lib.hid (fun h => (cnt_tt h : cnt m (k + 1) = cnt m k + 1))
        have HCF := Lib.hid (fun h => (cnt_ff h : cnt m (k + 1) = cnt m k))
        have HIS := Lib.hid (iv_snoc (idx m k) k)
        generalize m k = bo at *
        clear hown hbl
        cases bo with
        | false =>
          have HX := Lib.hid (HIF.out rfl)
          have HC := Lib.hid (HCF.out rfl)
          clear HIT HIF HCT HCF
          go_wp2_with fail
          exact ⟨⟨k + 1, A', c', by omega, by rw [HC.out], by go_num, by rw [HC.out, HX.out]; exact HO.out, HBL.out⟩, by simp [intOf]; omega⟩
        | true =>
          have HX := Lib.hid (HIT.out rfl)
          have HC := Lib.hid (HCT.out rfl)
          clear HIT HIF HCT HCF
          go_wp2_with (at_builtin; refine wpList_append_own _ rfl (.tmp 30) (.tmp 32) 22 rfl w3.heap.size 3 i0 (.int .i64 0) 1 8 Tryz.underlying22 HI.out HI0.out HI1.out HI2.out rfl (by decide) _ (cnt m k) (iv (idx m k)) rfl (HO.out.alloc _) ⟨wr.heap.size, 0, none⟩ 1 1 [.int .i64 (k : Int)] rfl rfl (World.news_of_block (heap_alloc_new wr _)) (by simp [Value.oneCell']) (by unfold maxLen; omega) (by omega) (by simp; omega) ?_; intro v' w6 hown6 hgr _; obtain ⟨A6, c6, rfl⟩ := own_form hown6; have O6 := Lib.hid hown6; have B6 := Lib.hid ((HBL.out.trans ((box_below _ _).mono HBL.out.size)).grown hgr (by simp; omega) (fun g e => (HO.out.lt g e).1)); clear hown6 hgr)
          exact ⟨⟨k + 1, A6, c6, by omega, by rw [HC.out], by go_num, by rw [HC.out, HX.out, HIS.out]; exact O6.out, B6.out⟩, by simp [intOf]; omega⟩
      · obtain rfl : k = d.k.length := by omega
        clear hown hbl
        go_wp2_with fail
        go_ret
        exact ⟨A', c', by first | rfl | simp, own_base HO.out B3.out.size, B3.out.trans (HBL.out.mono B3.out.size)⟩
  · have hz := cnt_none (p := upB d t p) (n := d.k.length) (fun j hj => upB_out hp j)
    rw [decide_eq_false hp] at HEX
    unfold SmPost
    rw [hz.1, hz.2]
    clear h hok hz
    go_enter Tryz.func23, Tryz.ntmps23
    go_wp2_with (first
      | (go_at_call 41; rw [HFD.out]; refine HVA.out.mono ?_; rintro e w1 ⟨rfl, hb1⟩; have B1 := Lib.hid (HB0.out.trans (hb1.mono HB0.out.size)); have D1 := Lib.hid ((hb1.block _ lR).trans R0.out); clear hb1 g0 g1; obtain ⟨g0, g1⟩ := gdCells D1.out)
      | (go_at_call 57; rw [HFD.out]; refine (HEX.out _).mono ?_; rintro e w2 ⟨rfl, hb2⟩; have B2 := Lib.hid (B1.out.trans (hb2.mono B1.out.size)); clear hb2 g0 g1))
    go_ret
    exact ⟨none, 0, by first | rfl | simp, own_nil _ _ _ _, B2.out⟩
end Go.Proofs.YtgknfkmojhganaaGreat.Di

namespace Go.Proofs.YtgknfkmojhganaaGreat.Di
open Go.RowKit
open Go.Proofs.YtgknfkmojhganaaGreat.Tp
set_option linter.unusedVariables false
set_option linter.unusedSimpArgs false

/-- An event that closes a place. -/
def unB (l : List Ac) (P t : Int) (i : Nat) : Bool := (ag l i).k == 4 && (ag l i).p == P && decide ((ag l i).t ≤ t)
/-- An event that opens a place. -/
def lnB (l : List Ac) (P t : Int) (i : Nat) : Bool := (ag l i).k == 3 && (ag l i).p == P && decide ((ag l i).t ≤ t) && decide (t < (ag l i).u)
/-- Is a place open by a link? -/
def opB (l : List Ac) (P t : Int) (i : Nat) : Bool := lnB l P t i && !anyB (fun x => unB l P t (i + 1 + x)) (l.length - (i + 1))
theorem un_iff {l : List Ac} {P t : Int} {i : Nat} : unB l P t i = true ↔ (ag l i).k = 4 ∧ (ag l i).p = P ∧ (ag l i).t ≤ t := by
  unfold unB; simp [and_assoc]
theorem ln_iff {l : List Ac} {P t : Int} {i : Nat} : lnB l P t i = true ↔ (ag l i).k = 3 ∧ (ag l i).p = P ∧ (ag l i).t ≤ t ∧ t < (ag l i).u := by
  unfold lnB; simp [and_assoc]
theorem lk_open (l : List Ac) (P t : Int) : ∀ K, (lk l P t K).isSome = true ↔ ∃ i, i < K ∧ lnB l P t i = true ∧ ∀ j, i < j → j < K → ¬ unB l P t j = true
  | 0 => by simp [lk]
  | K + 1 => by
    have ih := lk_open l P t K
    simp only [ln_iff, un_iff] at ih ⊢
    rw [lk]
    by_cases c1 : t < (ag l K).t ∨ (ag l K).p ≠ P
    · rw [if_pos c1, ih]
      constructor
      · rintro ⟨i, h1, h2, h3⟩
        refine ⟨i, by omega, h2, fun j h4 h5 => ?_⟩
        by_cases e : j = K
        · subst e
          rintro ⟨-, h6, h7⟩
          rcases c1 with c1 | c1
          · omega
          · exact c1 h6
        · exact h3 j h4 (by omega)
      · rintro ⟨i, h1, h2, h3⟩
        by_cases e : i = K
        · subst e
          rcases c1 with c1 | c1
          · omega
          · exact absurd h2.2.1 c1
        · exact ⟨i, by omega, h2, fun j h4 h5 => h3 j h4 (by omega)⟩
    · rw [if_neg c1]
      have c2 : (ag l K).p = P := Classical.not_not.1 (fun h => c1 (.inr h))
      have c3 : (ag l K).t ≤ t := Int.not_lt.1 (fun h => c1 (.inl h))
      by_cases c4 : (ag l K).k = 4
      · rw [if_pos c4]
        constructor
        · intro h; simp at h
        · rintro ⟨i, h1, h2, h3⟩
          by_cases e : i = K
          · subst e; omega
          · exact absurd ⟨c4, c2, c3⟩ (h3 K (by omega) (by omega))
      · rw [if_neg c4]
        by_cases c5 : (ag l K).k = 3 ∧ t < (ag l K).u
        · rw [if_pos c5]
          exact ⟨fun _ => ⟨K, by omega, ⟨c5.1, c2, c3, c5.2⟩, fun j h1 h2 => by omega⟩, fun _ => rfl⟩
        · rw [if_neg c5, ih]
          constructor
          · rintro ⟨i, h1, h2, h3⟩
            refine ⟨i, by omega, h2, fun j h4 h5 => ?_⟩
            by_cases e : j = K
            · subst e
              exact fun h => c4 h.1
            · exact h3 j h4 (by omega)
          · rintro ⟨i, h1, h2, h3⟩
            by_cases e : i = K
            · subst e
              exact absurd ⟨h2.1, h2.2.2.2⟩ c5
            · exact ⟨i, by omega, h2, fun j h4 h5 => h3 j h4 (by omega)⟩
theorem op_iff {l : List Ac} {P t : Int} {i : Nat} (hi : i < l.length) : opB l P t i = true ↔ lnB l P t i = true ∧ ∀ j, i < j → j < l.length → ¬ unB l P t j = true := by
  unfold opB
  rw [Bool.and_eq_true, Bool.not_eq_true', ← Bool.not_eq_true, any_iff]
  constructor
  · rintro ⟨h1, h2⟩
    refine ⟨h1, fun j h3 h4 h5 => h2 ⟨j - (i + 1), by omega, ?_⟩⟩
    show unB l P t (i + 1 + (j - (i + 1))) = true
    rw [show i + 1 + (j - (i + 1)) = j by omega]
    exact h5
  · rintro ⟨h1, h2⟩
    refine ⟨h1, ?_⟩
    rintro ⟨x, h3, h4⟩
    exact h2 (i + 1 + x) (by omega) (by omega) h4
theorem lk_isopen (l : List Ac) (P t : Int) : (lkA l P t).isSome = anyB (opB l P t) l.length := by
  rw [Bool.eq_iff_iff, any_iff]
  unfold lkA
  rw [lk_open]
  constructor
  · rintro ⟨i, h1, h2⟩
    exact ⟨i, h1, (op_iff h1).2 h2⟩
  · rintro ⟨i, h1, h2⟩
    exact ⟨i, h1, (op_iff h1).1 h2⟩
set_option maxRecDepth 100000 in
set_option maxHeartbeats 4000000 in
/-- The reference's Open. -/
theorem open_any (a : Es) (v : Ve) (P t : Int) (k : Nat) (w : World) (h : EL w 0 a v) (hok : Eok a) (hP : 0 ≤ P ∧ P < a.n) (hk : k < a.e.length) (hc : a.e.length ≤ v.c) :
    Calls Tryz.prog 52 #[.agg (ge a v), .int .i64 P, .int .i64 (k : Int), .int .i64 t] w fun e w' => e = .returned (.bool (opB a.e P t k)) ∧ Below w.heap.size w w' := by
  obtain ⟨A, vc⟩ := v
  simp only at hc
  have hm := hok.m
  have HB0 := Lib.hid (box_below w (.cells (ge a ⟨A, vc⟩) 28))
  have R0 := Lib.hid (heap_alloc_new w (.cells (ge a ⟨A, vc⟩) 28))
  obtain ⟨c0, c1⟩ := geCells R0.out
  have HPL := Lib.hid (place_yes a ⟨A, vc⟩ P _ (vay_of (Row.below h HB0.out) hok) ⟨hok.n1, hok.n16⟩ hP)
  have HF := Lib.hid (show (#[.int .i64 a.n, .slice A a.e.length vc] : Array Value) = ge a ⟨A, vc⟩ from rfl)
  have HE := Lib.hid h
  have lR := row_lt R0.out
  have hw1 : IntKind.i64.wrap ((a.e.length : Int) - 1) = (a.e.length : Int) - 1 := IntWalk.i64_in _ (by omega)
  obtain ⟨f, hf⟩ : ∃ f, k + 1 = f := ⟨_, rfl⟩
  have hw2 : (k : Int) + 1 = (f : Int) := by omega
  have hw3 : IntKind.i64.wrap (f : Int) = (f : Int) := IntWalk.i64_in _ (by omega)
  obtain ⟨o, ho⟩ : ∃ o, opB a.e P t k = o := ⟨_, rfl⟩
  rw [ho]
  unfold opB lnB at ho
  rw [hf] at ho
  have i0 : (0 : Int) ≤ (k : Int) := by omega
  have i1 : (k : Int) < (a.e.length : Int) := by omega
  obtain ⟨x, hx⟩ : ∃ x, ag a.e k = x := ⟨_, rfl⟩
  rw [hx] at ho
  obtain ⟨xt, xk, xp, xr, xu, xc, xf⟩ := x
  simp only at ho
  have HO := Lib.hid ho
  have HFK := Lib.hid hf
  have HXX := Lib.hid hx
  clear h hok hP hf ho hx
  go_enter Tryz.func52, Tryz.ntmps52
  go_upto_region 4 with (first
    | (go_at_call 42; rw [HF.out]; refine HPL.out.mono ?_; rintro e w1 ⟨rfl, hb1⟩; have B1 := Lib.hid (HB0.out.trans (hb1.mono HB0.out.size)); have R1 := Lib.hid ((hb1.block _ lR).trans R0.out); clear hb1 c0 c1; obtain ⟨c0, c1⟩ := geCells R1.out; obtain ⟨b, off, hA, -, hbk, hac⟩ := Row.ac (Row.below HE.out B1.out) hk; have hA : A = some ⟨b, off, none⟩ := hA; subst hA; rw [HXX.out] at hac; obtain ⟨y0, y1, y2, y3, y4, y5, y6⟩ := hac; simp only at y0 y1 y2 y3 y4 y5 y6)
    | (go_at_call 80; (with_reducible refine (in_yes (by omega) (by omega) _).mono ?_); rintro e w1 ⟨rfl, rfl⟩))
  have hbx := box_below w1 (.cells #[.int .i64 xt, .int .i64 xk, .int .i64 xp, .int .i64 xr, .int .i64 xu, .int .i64 xc, .int .i64 xf] 76)
  have BX := Lib.hid (B1.out.trans (hbx.mono B1.out.size))
  have XN := Lib.hid (heap_alloc_new w1 (.cells #[.int .i64 xt, .int .i64 xk, .int .i64 xp, .int .i64 xr, .int .i64 xu, .int .i64 xc, .int .i64 xf] 76))
  have RX := Lib.hid ((hbx.block _ (row_lt R1.out)).trans R1.out)
  have R1' := R1.out
  clear R1' c0 c1 y0 y1 y2 y3 y4 y5 y6 hbx
  have hbk2 : b < (w1.alloc (.cells #[.int .i64 xt, .int .i64 xk, .int .i64 xp, .int .i64 xr, .int .i64 xu, .int .i64 xc, .int .i64 xf] 76)).heap.size := by simp; omega
  obtain ⟨n0, n1, n2, n3, n4, n5, n6⟩ := accCells (x := ⟨xt, xk, xp, xr, xu, xc, xf⟩) XN.out
  simp only at n0 n1 n2 n3 n4 n5 n6
  generalize w1.alloc (.cells #[.int .i64 xt, .int .i64 xk, .int .i64 xp, .int .i64 xr, .int .i64 xu, .int .i64 xc, .int .i64 xf] 76) = W1 at *
  generalize w1.heap.size = Q1 at *
  obtain ⟨c0, c1⟩ := geCells RX.out
  by_cases h3 : xk = 3
  · have e1 : (xk != 3) = false := by rw [h3]; rfl
    by_cases h4 : xp = P
    · have e2 : (xp != P) = false := by rw [h4]; simp
      by_cases h5 : t < xt
      · have e3 : decide (t < xt) = true := decide_eq_true h5
        obtain rfl : o = false := by rw [← HO.out, decide_eq_false (show ¬ xt ≤ t by omega)]; simp
        clear h3 h4 h5
        go_wp2_with fail
        go_ret
        exact ⟨rfl, BX.out⟩
      · have e3 : decide (t < xt) = false := decide_eq_false h5
        by_cases h6 : xu ≤ t
        · have e4 : decide (xu ≤ t) = true := decide_eq_true h6
          obtain rfl : o = false := by rw [← HO.out, decide_eq_false (show ¬ t < xu by omega)]; simp
          clear h3 h4 h5 h6
          go_wp2_with fail
          go_ret
          exact ⟨rfl, BX.out⟩
        · have e4 : decide (xu ≤ t) = false := decide_eq_false h6
          have HOA := Lib.hid (show o = !anyB (fun x => unB a.e P t (f + x)) (a.e.length - f) by rw [← HO.out, decide_eq_true (show xt ≤ t by omega), decide_eq_true (show t < xu by omega), h3, h4]; simp)
          clear h3 h4 h5 h6 HO
          by_cases hcf : vc = f
          · obtain rfl : o = true := by rw [HOA.out, show a.e.length - f = 0 by omega]; rfl
            obtain ⟨n, hn⟩ : ∃ n, a.e.length = n := ⟨_, rfl⟩
            have hnf : n = f := by omega
            subst hnf
            subst hcf
            have hz : (vc : Int) - (vc : Int) = 0 := by omega
            go_wp2_with fail
            go_loopw [57] (fun jj wr => jj = .int .i64 0 ∧ W1 = wr) (fun _ _ => 0)
            case atStart => exact ⟨rfl, rfl⟩
            case round =>
              obtain ⟨rfl, rfl⟩ := hrel
              go_wp2_with fail
              go_ret
              exact ⟨rfl, BX.out⟩
          · have hcf2 : ¬ (vc : Int) = (f : Int) := by omega
            go_wp2_with fail
            have HAC := Lib.hid (fun wr (hb : Below W1.heap.size W1 wr) j (hj : f + j < a.e.length) => Row.ac (i := f + j) (Row.below HE.out (BX.out.trans (hb.mono BX.out.size))) hj)
            have RX2 := RX.out
            have lQX := row_lt RX2
            clear RX2 c0 c1 n0 n1 n2 n3 n4 n5 n6
            obtain ⟨LN, hLN⟩ : ∃ LN, a.e.length - f = LN := ⟨_, rfl⟩
            rw [hLN] at HOA ⊢
            go_loopw [57] (fun jj wr => ∃ j : Nat, j ≤ LN ∧ jj = .int .i64 (j : Int) ∧ anyB (fun x => unB a.e P t (f + x)) j = false ∧ Below W1.heap.size W1 wr) (fun jj _ => LN - (intOf jj).toNat)
            case atStart => exact ⟨0, by omega, rfl, rfl, Below.refl _ _⟩
            case round =>
              obtain ⟨j, hj, rfl, hun, hbl⟩ := hrel
              have HBL := Lib.hid hbl
              have HUN := Lib.hid hun
              by_cases hlt : j < LN
              · obtain ⟨b', off', hA', -, hbk', hac⟩ := HAC.out _ hbl j (by omega)
                injection hA' with hA'
                injection hA' with hA1 hA2
                subst hA1
                obtain rfl : off = off' := hA2
                obtain ⟨y0, y1, y2, y3, y4, y5, y6⟩ := hac
                rw [show off + (f + j) * 7 = off + f * 7 + j * 7 by omega] at y0 y1 y2 y3 y4 y5 y6
                have hus := (show anyB (fun x => unB a.e P t (f + x)) (j + 1) = (anyB (fun x => unB a.e P t (f + x)) j || unB a.e P t (f + j)) from rfl)
                rw [hun, Bool.false_or] at hus
                have HUS := Lib.hid hus
                have HUB := Lib.hid (show unB a.e P t (f + j) = ((ag a.e (f + j)).k == 4 && (ag a.e (f + j)).p == P && decide ((ag a.e (f + j)).t ≤ t)) from rfl)
                have HUL := Lib.hid (show unB a.e P t (f + j) = true → o = false from fun h => by rw [HOA.out, (any_iff _ _).2 ⟨j, hlt, h⟩]; rfl)
                generalize unB a.e P t (f + j) = ub at *
                generalize ag a.e (f + j) = x at *
                obtain ⟨zt, zk, zp, zr, zu, zc, zf⟩ := x
                have hub := HUB.out
                simp only at y0 y1 y2 y3 y4 y5 y6 hub
                have HUB := Lib.hid hub
                have hbx := box_below wr (.cells #[.int .i64 zt, .int .i64 zk, .int .i64 zp, .int .i64 zr, .int .i64 zu, .int .i64 zc, .int .i64 zf] 76)
                have BZ := Lib.hid (hbl.trans (hbx.mono hbl.size))
                have XZ := Lib.hid (heap_alloc_new wr (.cells #[.int .i64 zt, .int .i64 zk, .int .i64 zp, .int .i64 zr, .int .i64 zu, .int .i64 zc, .int .i64 zf] 76))
                obtain ⟨n0, n1, n2, n3, n4, n5, n6⟩ := accCells (x := ⟨zt, zk, zp, zr, zu, zc, zf⟩) XZ.out
                simp only at n0 n1 n2 n3 n4 n5 n6
                have j0 : (0 : Int) ≤ (j : Int) := by omega
                have j1 : (j : Int) < (LN : Int) := by omega
                have hj120 : j ≤ 120 := by omega
                clear hun hbl hus hub hbx
                by_cases g1 : zk = 4
                · have d1 : (zk == 4) = true := by rw [g1]; rfl
                  by_cases g2 : zp = P
                  · have d2 : (zp == P) = true := by rw [g2]; simp
                    by_cases g3 : zt ≤ t
                    · have d3 : decide (zt ≤ t) = true := decide_eq_true g3
                      obtain rfl : o = false := HUL.out (by rw [HUB.out, d1, d2, d3]; rfl)
                      have BF := Lib.hid (BX.out.trans (BZ.out.mono BX.out.size))
                      clear g1 g2 g3
                      go_wp2_with fail
                      go_ret
                      exact ⟨rfl, BF.out⟩
                    · have d3 : decide (zt ≤ t) = false := decide_eq_false g3
                      have HU0 := Lib.hid (show ub = false by rw [HUB.out, d3]; simp)
                      clear g1 g2 g3
                      go_wp2_with fail
                      exact ⟨⟨j + 1, by omega, by go_num, by rw [HUS.out, HU0.out], BZ.out⟩, by simp [intOf]; omega⟩
                  · have d2 : (zp == P) = false := beq_eq_false_iff_ne.2 g2
                    have HU0 := Lib.hid (show ub = false by rw [HUB.out, d2]; simp)
                    clear g1 g2
                    go_wp2_with fail
                    exact ⟨⟨j + 1, by omega, by go_num, by rw [HUS.out, HU0.out], BZ.out⟩, by simp [intOf]; omega⟩
                · have d1 : (zk == 4) = false := beq_eq_false_iff_ne.2 g1
                  have HU0 := Lib.hid (show ub = false by rw [HUB.out, d1]; rfl)
                  clear g1
                  go_wp2_with fail
                  exact ⟨⟨j + 1, by omega, by go_num, by rw [HUS.out, HU0.out], BZ.out⟩, by simp [intOf]; omega⟩
              · obtain rfl : j = LN := by omega
                obtain rfl : o = true := by rw [HOA.out, hun]; rfl
                have BF := Lib.hid (BX.out.trans (hbl.mono BX.out.size))
                clear hbl hun
                go_wp2_with fail
                go_ret
                exact ⟨rfl, BF.out⟩
    · have e2 : (xp != P) = true := bne_iff_ne.2 h4
      obtain rfl : o = false := by rw [← HO.out, beq_eq_false_iff_ne.2 h4]; simp
      clear h3 h4
      go_wp2_with fail
      go_ret
      exact ⟨rfl, BX.out⟩
  · have e1 : (xk != 3) = true := bne_iff_ne.2 h3
    obtain rfl : o = false := by rw [← HO.out, beq_eq_false_iff_ne.2 h3]; simp
    clear h3
    go_wp2_with fail
    go_ret
    exact ⟨rfl, BX.out⟩
set_option maxRecDepth 100000 in
set_option maxHeartbeats 4000000 in
/-- The reference's Linked. -/
theorem rlinked_any (a : Es) (v : Ve) (P t : Int) (w : World) (h : EL w 0 a v) (hok : Eok a) (hP : 0 ≤ P ∧ P < a.n) (hc : a.e.length ≤ v.c) :
    Calls Tryz.prog 29 #[.agg (ge a v), .int .i64 P, .int .i64 t] w fun e w' => (∃ z : Int, e = .returned (.tuple #[.int .i64 z, .bool (lkA a.e P t).isSome])) ∧ Below w.heap.size w w' := by
  have hm := hok.m
  have HB0 := Lib.hid (box_below w (.cells (ge a v) 28))
  have R0 := Lib.hid (heap_alloc_new w (.cells (ge a v) 28))
  have HE := Lib.hid (Row.below h HB0.out)
  obtain ⟨c0, c1⟩ := geCells R0.out
  have HF := Lib.hid (show (#[.int .i64 a.n, .slice v.A a.e.length v.c] : Array Value) = ge a v from rfl)
  have HOP := Lib.hid (fun w' (hb : Below (w.alloc (.cells (ge a v) 28)).heap.size (w.alloc (.cells (ge a v) 28)) w') k (hk : k < a.e.length) => open_any a v P t k w' (Row.below HE.out hb) hok hP hk hc)
  have HLO := Lib.hid (lk_isopen a.e P t)
  obtain ⟨o, ho⟩ : ∃ o, (lkA a.e P t).isSome = o := ⟨_, rfl⟩
  rw [ho] at HLO ⊢
  have lR := row_lt R0.out
  have hw1 : IntKind.i64.wrap ((a.e.length : Int) - 1) = (a.e.length : Int) - 1 := IntWalk.i64_in _ (by omega)
  clear h hok hP ho
  go_enter Tryz.func29, Tryz.ntmps29
  go_wp2_with fail
  generalize w.alloc (.cells (ge a v) 28) = W1 at *
  go_loopw [8] (fun kk wr => ∃ j : Nat, j ≤ a.e.length ∧ kk = .int .i64 ((j : Int) - 1) ∧ (∀ i, j ≤ i → i < a.e.length → opB a.e P t i = false) ∧ Below W1.heap.size W1 wr) (fun kk _ => (intOf kk + 1).toNat)
  case atStart => exact ⟨a.e.length, by omega, rfl, fun i h1 h2 => by omega, Below.refl _ _⟩
  case round =>
    obtain ⟨j, hj, rfl, hno, hbl⟩ := hrel
    have HBL := Lib.hid hbl
    have HNO := Lib.hid hno
    have RB := Lib.hid ((hbl.block _ lR).trans R0.out)
    clear c0 c1
    obtain ⟨c0, c1⟩ := geCells RB.out
    by_cases hlt : j = 0
    · subst hlt
      obtain rfl : o = false := by
        rw [HLO.out, ← Bool.not_eq_true, any_iff]
        rintro ⟨i, h1, h2⟩
        rw [HNO.out i (by omega) h1] at h2
        cases h2
      have d1 : decide ((0 : Int) ≤ (0 : Int) - 1) = false := by decide
      have BF := Lib.hid (HB0.out.trans (hbl.mono HB0.out.size))
      clear hbl hno
      go_wp2_with fail
      go_ret2
      exact ⟨⟨_, rfl⟩, BF.out⟩
    · obtain ⟨i, rfl⟩ : ∃ i, j = i + 1 := ⟨j - 1, by omega⟩
      have hji : ((i + 1 : Nat) : Int) - 1 = (i : Int) := by omega
      rw [hji]
      have d1 : decide ((0 : Int) ≤ (i : Int)) = true := decide_eq_true (by omega)
      have hop := fun w' hb => HOP.out w' hb i (by omega)
      obtain ⟨b, hb⟩ : ∃ b, opB a.e P t i = b := ⟨_, rfl⟩
      rw [hb] at hop
      have HO1 := Lib.hid hop
      have HB := Lib.hid hb
      have HNN := Lib.hid (show b = false → ∀ x, i ≤ x → x < a.e.length → opB a.e P t x = false from fun h x h1 h2 => by
        by_cases e : x = i
        · rw [e, HB.out, h]
        · exact HNO.out x (by omega) h2)
      have hw2 : IntKind.i64.wrap ((i : Int) - 1) = (i : Int) - 1 := IntWalk.i64_in _ (by omega)
      have hle : i < a.e.length := by omega
      clear hop hb hbl hno hji
      cases b with
      | true =>
        obtain rfl : o = true := by rw [HLO.out, any_iff]; exact ⟨i, hle, HB.out⟩
        go_wp2_with (go_at_call 52; rw [HF.out]; refine (HO1.out _ HBL.out).mono ?_; rintro e w2 ⟨rfl, hb2⟩; have B2 := Lib.hid (HB0.out.trans ((HBL.out.trans (hb2.mono HBL.out.size)).mono HB0.out.size)); clear hb2 c0 c1)
        go_ret2
        exact ⟨⟨_, rfl⟩, B2.out⟩
      | false =>
        go_wp2_with (go_at_call 52; rw [HF.out]; refine (HO1.out _ HBL.out).mono ?_; rintro e w2 ⟨rfl, hb2⟩; have B2 := Lib.hid (HBL.out.trans (hb2.mono HBL.out.size)); clear hb2 c0 c1)
        exact ⟨⟨i, by omega, by first | rfl | simp, HNN.out (by first | rfl | trivial), B2.out⟩, by simp [intOf]; try omega⟩
set_option maxRecDepth 100000 in
set_option maxHeartbeats 4000000 in
/-- The reference's Granted. -/
theorem rgranted_any (a : Es) (v : Ve) (P t : Int) (w : World) (h : EL w 0 a v) (hok : Eok a) (hP : 0 ≤ P ∧ P < a.n) :
    Calls Tryz.prog 66 #[.agg (ge a v), .int .i64 P, .int .i64 t] w (SmPost (gdB a P t) 24 w) := by
  have hm := hok.m
  have HB0 := Lib.hid (box_below w (.cells (ge a v) 28))
  have R0 := Lib.hid (heap_alloc_new w (.cells (ge a v) 28))
  have HE := Lib.hid (Row.below h HB0.out)
  obtain ⟨c0, c1⟩ := geCells R0.out
  have HPL := Lib.hid (place_yes a v P _ (vay_of HE.out hok) ⟨hok.n1, hok.n16⟩ hP)
  have HF := Lib.hid (show (#[.int .i64 a.n, .slice v.A a.e.length v.c] : Array Value) = ge a v from rfl)
  have HGR := Lib.hid (fun w' (hb : Below (w.alloc (.cells (ge a v) 28)).heap.size (w.alloc (.cells (ge a v) 28)) w') (k : Nat) => rgrant_any a v P (k : Int) t w' (Row.below HE.out hb) (by omega))
  have HGB := Lib.hid (fun k => (gdB_yes ⟨hok, hP⟩ t k : gdB a P t k = _))
  have lR := row_lt R0.out
  obtain ⟨i0, hi1, hz0, hz1, hz2⟩ := info_parts zinfo3
  have HI := Lib.hid hi1
  have HI0 := Lib.hid hz0
  have HI1 := Lib.hid hz1
  have HI2 := Lib.hid hz2
  generalize gdB a P t = m at *
  unfold SmPost
  clear hi1 hz0 hz1 hz2 h hok hP
  go_enter Tryz.func66, Tryz.ntmps66
  go_wp2_with (go_at_call 42; rw [HF.out]; refine HPL.out.mono ?_; rintro e w1 ⟨rfl, hb1⟩; have B1 := Lib.hid hb1; have R1 := Lib.hid ((hb1.block _ lR).trans R0.out); clear hb1 c0 c1; obtain ⟨c0, c1⟩ := geCells R1.out)
  generalize w.alloc (.cells (ge a v) 28) = W1 at *
  go_loopw [7, 8] (fun ov ii wr => ∃ (k : Nat) (A' : Option Addr) (c' : Nat), k ≤ 24 ∧ ov = .slice A' (cnt m k) c' ∧ ii = .int .i64 (k : Int) ∧ wr.ownsRow w1.heap.size 3 1 (.slice A' (cnt m k) c') (cnt m k) (iv (idx m k)) ∧ Below w1.heap.size w1 wr) (fun _ ii _ => 24 - (intOf ii).toNat)
  case atStart => exact ⟨0, none, 0, by omega, rfl, rfl, own_nil _ _ _ _, Below.refl _ _⟩
  case round =>
    obtain ⟨k, A', c', hk, rfl, rfl, hown, hbl⟩ := hrel
    have HO := Lib.hid hown
    have HBL := Lib.hid hbl
    have hcn := cnt_le m k
    have hsz := hbl.size
    have RB := Lib.hid ((hbl.block _ (row_lt R1.out)).trans R1.out)
    clear c0 c1
    obtain ⟨c0, c1⟩ := geCells RB.out
    by_cases hlt : k < 24
    · have k0 : (0 : Int) ≤ (k : Int) := by omega
      have k1 : decide ((k : Int) < 24) = true := decide_eq_true (by omega)
      have HGK := Lib.hid (fun w' hb => HGR.out w' (B1.out.trans (Below.mono (hb : Below w1.heap.size w1 w') B1.out.size)) k)
      have HB := Lib.hid (HGB.out k)
      generalize grA a.e P t (k : Int) = go at *
      have HIT := Lib.hid (fun h => (idx_tt h : idx m (k + 1) = idx m k ++ [k]))
      have HIF := Lib.hid (fun h => (idx_ff h : idx m (k + 1) = idx m k))
      have HCT := Lib.hid (fun h => (cnt_tt h : cnt m (k + 1) = cnt m k + 1))
      have HCF := Lib.hid (fun h => (cnt_ff h : cnt m (k + 1) = cnt m k))
      have HIS := Lib.hid (iv_snoc (idx m k) k)
      generalize m k = bo at *
      clear hown hbl
      cases go with
      | none =>
        have HX := Lib.hid (HIF.out HB.out)
        have HC := Lib.hid (HCF.out HB.out)
        have HG2 := Lib.hid (show ∀ w', Below w1.heap.size w1 w' → Calls Tryz.prog 98 #[.agg (ge a v), .int .i64 P, .int .i64 (k : Int), .int .i64 t] w' fun e w'' => e = .returned (.int .i64 (-1)) ∧ Below w'.heap.size w' w'' from HGK.out)
        clear HIT HIF HCT HCF HGK HB
        go_wp2_with (go_at_call 98; rw [HF.out]; refine (HG2.out _ HBL.out).mono ?_; rintro e w2 ⟨rfl, hb2⟩; have B2 := Lib.hid (HBL.out.trans (hb2.mono HBL.out.size)); have O2 := Lib.hid (own_below HO.out hb2); clear hb2 c0 c1)
        exact ⟨⟨k + 1, A', c', by omega, by rw [HC.out], by go_num, by rw [HC.out, HX.out]; exact O2.out, B2.out⟩, by simp [intOf]; omega⟩
      | some x =>
        have HX := Lib.hid (HIT.out HB.out)
        have HC := Lib.hid (HCT.out HB.out)
        have HG2 := Lib.hid (show ∀ w', Below w1.heap.size w1 w' → Calls Tryz.prog 98 #[.agg (ge a v), .int .i64 P, .int .i64 (k : Int), .int .i64 t] w' fun e w'' => e = .returned (.int .i64 (x : Int)) ∧ Below w'.heap.size w' w'' from HGK.out)
        have d2 : decide ((0 : Int) ≤ (x : Int)) = true := decide_eq_true (by omega)
        clear HIT HIF HCT HCF HGK HB
        go_wp2_with (first
          | (go_at_call 98; rw [HF.out]; refine (HG2.out _ HBL.out).mono ?_; rintro e w2 ⟨rfl, hb2⟩; have B2 := Lib.hid (HBL.out.trans (hb2.mono HBL.out.size)); have O2 := Lib.hid (own_below HO.out hb2); have hs2 := B2.out.size; clear hb2 c0 c1)
          | (at_builtin; refine wpList_append_own _ rfl (.tmp 23) (.tmp 25) 22 rfl w1.heap.size 3 i0 (.int .i64 0) 1 8 Tryz.underlying22 HI.out HI0.out HI1.out HI2.out rfl (by decide) _ (cnt m k) (iv (idx m k)) rfl (O2.out.alloc _) ⟨w2.heap.size, 0, none⟩ 1 1 [.int .i64 (k : Int)] rfl rfl (World.news_of_block (heap_alloc_new w2 _)) (by simp [Value.oneCell']) (by unfold maxLen; omega) (by omega) (by simp; omega) ?_; intro v' w6 hown6 hgr _; obtain ⟨A6, c6, rfl⟩ := own_form hown6; have O6 := Lib.hid hown6; have B6 := Lib.hid ((B2.out.trans ((box_below _ _).mono B2.out.size)).grown hgr (by simp; omega) (fun g e => (O2.out.lt g e).1)); clear hown6 hgr))
        exact ⟨⟨k + 1, A6, c6, by omega, by rw [HC.out], by go_num, by rw [HC.out, HX.out, HIS.out]; exact O6.out, B6.out⟩, by simp [intOf]; omega⟩
    · obtain rfl : k = 24 := by omega
      have BF := Lib.hid (HB0.out.trans ((B1.out.trans (hbl.mono B1.out.size)).mono HB0.out.size))
      have lB := (HB0.out.trans (B1.out.mono HB0.out.size)).size
      clear hown hbl
      go_wp2_with fail
      go_ret
      exact ⟨A', c', by first | rfl | simp, own_base HO.out lB, BF.out⟩

end Go.Proofs.YtgknfkmojhganaaGreat.Di

namespace Go.Proofs.YtgknfkmojhganaaGreat.Di
open Go.RowKit
open Go.Proofs.YtgknfkmojhganaaGreat.Tp
set_option linter.unusedVariables false
set_option linter.unusedSimpArgs false

set_option maxRecDepth 100000 in
set_option maxHeartbeats 400000 in
theorem rf_call (g : Nat → Bool) (q : Nat) (hq : q < 24) (X : Option Addr) (cc G : Nat) (w : World) (hc : w.cell? ⟨G, 0, none⟩ = some (.slice X (cnt g 24) cc)) (hr : Row w 0 1 X (cnt g 24) (iv (idx g 24))) :
    Calls Tryz.prog 63 (#[.int .i64 (q : Int)] ++ #[.pointer (some ⟨G, 0, none⟩)]) w fun e w' => e = .returned (.bool (g q)) ∧ Below w.heap.size w w' := by
  have hcn := cnt_le g 24
  have h := contains_any (idx g 24) q X (cnt g 24) cc w hr (by omega)
  rw [has_idx g 24 q hq] at h
  have H := Lib.hid h
  generalize cnt g 24 = n at *
  generalize g q = b at *
  clear h hr
  show Calls Tryz.prog 63 #[.int .i64 (q : Int), .pointer (some ⟨G, 0, none⟩)] w _
  go_enter Tryz.func63, Tryz.ntmps63
  go_wp2_with (go_at_call 60; refine H.out.mono ?_; rintro e w1 ⟨rfl, rfl⟩)
  go_ret
  exact ⟨by first | rfl | simp, Below.refl _ _⟩
set_option maxRecDepth 100000 in
set_option maxHeartbeats 400000 in
/-- IndexFunc over the test of Refutes. -/
theorem idx41_any (l : List Nat) (ca : Array Value) (A : Option Addr) (n c : Nat) (p : Nat → Bool) (w : World) (hn : n ≤ 1000) (h : Row w 0 1 A n (iv l))
    (hp : ∀ i, i < n → ∀ w', Below w.heap.size w w' → Calls Tryz.prog 63 (#[.int .i64 ((l.getD i 0 : Nat) : Int)] ++ ca) w' fun e w'' => e = .returned (.bool (p i)) ∧ Below w'.heap.size w' w'') :
    Calls Tryz.prog 92 #[.slice A n c, .func (.func 63) #[] ca] w fun e w' => e = .returned (.int .i64 (fi p n 0)) ∧ Below w.heap.size w w' := by
  have H := Lib.hid h
  have HP := Lib.hid hp
  clear h hp
  go_enter Tryz.func92, Tryz.ntmps92
  go_wp2
  go_loopw [8] (fun i wr => ∃ k : Nat, k ≤ n ∧ i = .int .i64 k ∧ fi p n 0 = fi p (n - k) k ∧ Below w.heap.size w wr) (fun i _ => n - (intOf i).toNat)
  case atStart => exact ⟨0, by omega, rfl, rfl, Below.refl _ _⟩
  case round =>
    obtain ⟨k, hk, rfl, hfi, hbl⟩ := hrel
    have HBL := Lib.hid hbl
    have HF := Lib.hid hfi
    clear hfi
    by_cases hlt : k < n
    · obtain ⟨b, off, rfl, hB, hbk, y0⟩ := (H.out.below hbl).int hlt
      have HC := Lib.hid (HP.out k hlt wr hbl)
      have HFI := Lib.hid (fi_step p n k hlt)
      have j0 : (0 : Int) ≤ (k : Int) := by omega
      have j1 : (k : Int) < (n : Int) := by omega
      clear hbl
      generalize l.getD k 0 = x at *
      cases hpk : p k with
      | true =>
        rw [hpk] at HC
        have HPK := Lib.hid hpk
        clear hpk
        go_wp2_with (go_at_call 63; refine HC.out.mono ?_; rintro e w2 ⟨rfl, hb2⟩; have HB2 := Lib.hid (HBL.out.trans (hb2.mono HBL.out.size)); clear hb2)
        go_ret
        refine ⟨?_, HB2.out⟩
        rw [HF.out, HFI.out.1 HPK.out]
        rfl
      | false =>
        rw [hpk] at HC
        have HPK := Lib.hid hpk
        clear hpk
        go_wp2_with (go_at_call 63; refine HC.out.mono ?_; rintro e w2 ⟨rfl, hb2⟩; have HB2 := Lib.hid (HBL.out.trans (hb2.mono HBL.out.size)); clear hb2)
        exact ⟨⟨k + 1, by omega, by go_num, by rw [HF.out, HFI.out.2 HPK.out], HB2.out⟩, by simp [intOf]; omega⟩
    · obtain rfl : n = k := by omega
      go_wp2
      go_ret
      exact ⟨by rw [HF.out, Nat.sub_self]; rfl, HBL.out⟩
set_option maxRecDepth 100000 in
set_option maxHeartbeats 400000 in
theorem cf41_any (l : List Nat) (ca : Array Value) (A : Option Addr) (n c : Nat) (p : Nat → Bool) (w : World) (hn : n ≤ 1000) (h : Row w 0 1 A n (iv l))
    (hp : ∀ i, i < n → ∀ w', Below w.heap.size w w' → Calls Tryz.prog 63 (#[.int .i64 ((l.getD i 0 : Nat) : Int)] ++ ca) w' fun e w'' => e = .returned (.bool (p i)) ∧ Below w'.heap.size w' w'') :
    Calls Tryz.prog 62 #[.slice A n c, .func (.func 63) #[] ca] w fun e w' => e = .returned (.bool (anyB p n)) ∧ Below w.heap.size w w' := by
  have HI := Lib.hid (idx41_any l ca A n c p w hn h hp)
  have HS := Lib.hid (fi_some p n)
  have HN := Lib.hid (fi_none p n)
  clear h hp
  obtain ⟨b, hb⟩ : ∃ b, anyB p n = b := ⟨_, rfl⟩
  have hs := HS.out
  have hn2 := HN.out
  rw [hb] at hs hn2 ⊢
  clear HS HN hb
  cases b with
  | true =>
    obtain ⟨q, hq⟩ := hs rfl
    have hi := HI.out
    rw [hq] at hi
    have HJ := Lib.hid hi
    have d1 : decide ((0 : Int) ≤ (q : Int)) = true := decide_eq_true (by omega)
    clear hi HI hs hn2 hq
    go_enter Tryz.func62, Tryz.ntmps62
    go_wp2_with (go_at_call 92; refine HJ.out.mono ?_; rintro e w1 ⟨rfl, hb1⟩; have HB := Lib.hid hb1; clear hb1)
    go_ret
    exact ⟨by first | rfl | simp, HB.out⟩
  | false =>
    have hq := hn2 rfl
    have hi := HI.out
    rw [hq] at hi
    have HJ := Lib.hid hi
    clear hi HI hs hn2 hq
    go_enter Tryz.func62, Tryz.ntmps62
    go_wp2_with (go_at_call 92; refine HJ.out.mono ?_; rintro e w1 ⟨rfl, hb1⟩; have HB := Lib.hid hb1; clear hb1)
    go_ret
    exact ⟨by first | rfl | simp, HB.out⟩
set_option maxRecDepth 100000 in
set_option maxHeartbeats 4000000 in
/-- Refutes, at a reader and what it reaches. -/
theorem refutes_up (d : Dy) (v : Vd) (a : Es) (u : Ve) (p P t cs : Nat) (As : Option Addr) (w : World) (h : DL w 0 d v) (hok : Ok d) (he : EL w 0 a u) (hea : Eok a) (hP : (P : Int) < a.n) (hr : rB d p = true) (hp : p < d.k.length)
    (hs : Row w 0 1 As (idx (upB d t p) d.k.length).length (iv (idx (upB d t p) d.k.length))) :
    Calls Tryz.prog 24 #[.agg (gd d v), .agg (ge a u), .int .i64 (p : Int), .int .i64 (P : Int), .int .i64 (t : Int), .slice As (idx (upB d t p) d.k.length).length cs] w fun e w' => e = .returned (.bool (!mayB d a p P t)) ∧ Below w.heap.size w w' := by
  have hn := hok.n
  have hbx := (box_below w (.cells (gd d v) 25)).trans ((box_below (w.alloc (.cells (gd d v) 25)) (.cells (ge a u) 28)).mono (by simp))
  have D1 := Lib.hid (heap_alloc2_old w (.cells (gd d v) 25) (.cells (ge a u) 28))
  have E1 := Lib.hid (heap_alloc2_new w (.cells (gd d v) 25) (.cells (ge a u) 28))
  have HBX := Lib.hid hbx
  obtain ⟨g0, g1⟩ := gdCells D1.out
  obtain ⟨c0, c1⟩ := geCells E1.out
  have hex := exr_any d v a u p P _ (h.below hbx) hok (Row.below he hbx) hea hP
  rw [hr] at hex
  have HEX := Lib.hid hex
  have hlk := fun w' (hb : Below w.heap.size w w') => linked_yes a u (P : Int) (t : Int) w' (Row.below he hb) ⟨hea, by omega, hP⟩
  have hcl := fun w' (hb : Below w.heap.size w w') => closed_any 0 d v t cs As (idx (upB d t p) d.k.length) w' (h.below hb) hok (hs.below hb) (idx_strict _ _)
  rw [cl_up d t p, idx_len] at hcl
  have hcn := fun w' (hb : Below w.heap.size w w') => contains_any (idx (upB d t p) d.k.length) p As (idx (upB d t p) d.k.length).length cs w' (hs.below hb) (by rw [idx_len]; have := cnt_le (upB d t p) d.k.length; omega)
  have hself := has_idx (upB d t p) d.k.length p hp
  rw [up_self hp] at hself
  rw [idx_len, hself] at hcn
  have hgr := fun w' (hb : Below w.heap.size w w') => granted_any a u (P : Int) (t : Int) w' (Row.below he hb)
  unfold SmPost at hgr
  have hcf := fun w' (hb : Below w.heap.size w w') (X : Option Addr) (cc G : Nat) (hc : w'.cell? ⟨G, 0, none⟩ = some (.slice X (cnt (gdB a (P : Int) (t : Int)) 24) cc)) (hl : G < w'.heap.size) (hrx : Row w' 0 1 X (cnt (gdB a (P : Int) (t : Int)) 24) (iv (idx (gdB a (P : Int) (t : Int)) 24))) =>
    cf41_any (idx (upB d t p) d.k.length) #[.pointer (some ⟨G, 0, none⟩)] As (cnt (upB d t p) d.k.length) cs (fun i => gdB a (P : Int) (t : Int) ((idx (upB d t p) d.k.length).getD i 0)) w' (by have := cnt_le (upB d t p) d.k.length; omega)
      (by have := hs.below hb; rwa [idx_len] at this)
      (fun i hi w2 h2 => rf_call (gdB a (P : Int) (t : Int)) _ (by have := (at_idx hi).1; omega) X cc G w2 ((h2.cell hl).trans hc) (hrx.below h2))
  have hai := any_idx (upB d t p) (gdB a (P : Int) (t : Int)) d.k.length
  have hmy : mayB d a p P t = ((lkA a.e (P : Int) (t : Int)).isSome || anyB (fun q => upB d t p q && gdB a (P : Int) (t : Int) q) d.k.length) := by
    rw [may_is, hr, Bool.true_and]; rfl
  rw [hmy]
  simp only [hai] at hcf
  rw [idx_len]
  generalize anyB (fun q => upB d t p q && gdB a (P : Int) (t : Int) q) d.k.length = kb at *
  generalize cnt (upB d t p) d.k.length = nu at *
  generalize cnt (gdB a (P : Int) (t : Int)) 24 = ng at *
  generalize idx (gdB a (P : Int) (t : Int)) 24 = LG at *
  generalize lkA a.e (P : Int) (t : Int) = o at *
  generalize on o = oi at *
  generalize o.isSome = ob at *
  have HLK := Lib.hid hlk
  have HCL := Lib.hid hcl
  have HCN := Lib.hid hcn
  have HGR := Lib.hid hgr
  have HCF := Lib.hid hcf
  have HFD := Lib.hid (show (#[.slice v.A1 d.k.length v.c1, .slice v.A2 d.e.length v.c2] : Array Value) = gd d v from rfl)
  have HFE := Lib.hid (show (#[.int .i64 a.n, .slice u.A a.e.length u.c] : Array Value) = ge a u from rfl)
  have lD := row_lt D1.out
  have lE := row_lt E1.out
  have hNS : w.heap.size + 1 < ((w.alloc (.cells (gd d v) 25)).alloc (.cells (ge a u) 28)).heap.size := lE
  clear h hok he hea hP hr hp hs hbx hex hlk hcl hcn hself hgr hcf hai hmy
  cases ob with
  | true =>
    go_enter Tryz.func24, Tryz.ntmps24
    go_wp2_with (first
      | (go_at_call 48; rw [HFD.out, HFE.out]; refine HEX.out.mono ?_; rintro e w1 ⟨rfl, hb1⟩; have B1 := Lib.hid (HBX.out.trans (hb1.mono HBX.out.size)); have D2 := Lib.hid ((hb1.block _ lD).trans D1.out); have E2 := Lib.hid ((hb1.block _ lE).trans E1.out); clear hb1 g0 g1 c0 c1; obtain ⟨g0, g1⟩ := gdCells D2.out; obtain ⟨c0, c1⟩ := geCells E2.out)
      | (go_at_call 46; rw [HFE.out]; refine (HLK.out _ B1.out).mono ?_; rintro e w2 ⟨rfl, hb2⟩; have B2 := Lib.hid (B1.out.trans (hb2.mono B1.out.size)); clear hb2 g0 g1 c0 c1))
    go_ret
    exact ⟨by first | rfl | simp, B2.out⟩
  | false =>
    go_enter Tryz.func24, Tryz.ntmps24
    go_wp2_with (first
      | (go_at_call 48; rw [HFD.out, HFE.out]; refine HEX.out.mono ?_; rintro e w1 ⟨rfl, hb1⟩; have B1 := Lib.hid (HBX.out.trans (hb1.mono HBX.out.size)); have D2 := Lib.hid ((hb1.block _ lD).trans D1.out); have E2 := Lib.hid ((hb1.block _ lE).trans E1.out); clear hb1 g0 g1 c0 c1; obtain ⟨g0, g1⟩ := gdCells D2.out; obtain ⟨c0, c1⟩ := geCells E2.out)
      | (go_at_call 46; rw [HFE.out]; refine (HLK.out _ B1.out).mono ?_; rintro e w2 ⟨rfl, hb2⟩; have B2 := Lib.hid (B1.out.trans (hb2.mono B1.out.size)); have D3 := Lib.hid ((hb2.block _ (row_lt D2.out)).trans D2.out); have E3 := Lib.hid ((hb2.block _ (row_lt E2.out)).trans E2.out); clear hb2 g0 g1 c0 c1; obtain ⟨g0, g1⟩ := gdCells D3.out; obtain ⟨c0, c1⟩ := geCells E3.out)
      | (go_at_call 59; rw [HFD.out]; refine (HCL.out _ B2.out).mono ?_; rintro e w3 ⟨rfl, hb3⟩; have B3 := Lib.hid (B2.out.trans (hb3.mono B2.out.size)); have E4 := Lib.hid ((hb3.block _ (row_lt E3.out)).trans E3.out); clear hb3 g0 g1 c0 c1; obtain ⟨c0, c1⟩ := geCells E4.out)
      | (go_at_call 60; refine (HCN.out _ B3.out).mono ?_; rintro e w3 ⟨rfl, rfl⟩)
      | (go_at_call 61; rw [HFE.out]; refine (HGR.out _ B3.out).mono ?_; rintro e w4 ⟨X, xc, rfl, hown, hb4⟩; have B4 := Lib.hid (B3.out.trans (hb4.mono B3.out.size)); have RX := Lib.hid ((row_of_own hown).base (Nat.zero_le _)); have hbn := box_below w4 (.cells #[.slice X ng xc] 22); have B5 := Lib.hid (B4.out.trans (hbn.mono B4.out.size)); have RX5 := Lib.hid (RX.out.below hbn); have N5 := Lib.hid (heap_alloc_new w4 (.cells #[.slice X ng xc] 22)); have HC5 := Lib.hid (show (w4.alloc (.cells #[.slice X ng xc] 22)).cell? ⟨w4.heap.size, 0, none⟩ = some (.slice X ng xc) by rw [cell_of_row _ _ _ _ _ _ N5.out]; rfl); clear hb4 hown hbn c0 c1)
      | (go_at_call 62; refine (HCF.out _ B5.out X xc _ HC5.out (row_lt N5.out) RX5.out).mono ?_; rintro e w6 ⟨rfl, hb6⟩; have B6 := Lib.hid (B5.out.trans (hb6.mono B5.out.size)); clear hb6))
    go_ret
    exact ⟨by first | rfl | simp, B6.out⟩

end Go.Proofs.YtgknfkmojhganaaGreat.Di

namespace Go.Proofs.YtgknfkmojhganaaGreat.Di
open Go.RowKit
open Go.Proofs.YtgknfkmojhganaaGreat.Tp
set_option linter.unusedVariables false
set_option linter.unusedSimpArgs false

theorem lk_some (l : List Ac) (P t : Int) : ∀ K i, lk l P t K = some i → i < K ∧ lnB l P t i = true ∧ ∀ j, i < j → j < K → unB l P t j = false
  | 0, _, h => by cases h
  | K + 1, i, h => by
    have ih := lk_some l P t K i
    rw [lk] at h
    have hun : ∀ (e : t < (ag l K).t ∨ (ag l K).p ≠ P ∨ (ag l K).k ≠ 4), unB l P t K = false := fun e => by
      rw [← Bool.not_eq_true, un_iff]
      rintro ⟨e1, e2, e3⟩
      rcases e with e | e | e
      · omega
      · exact e e2
      · exact e e1
    by_cases c1 : t < (ag l K).t ∨ (ag l K).p ≠ P
    · rw [if_pos c1] at h
      obtain ⟨h1, h2, h3⟩ := ih h
      refine ⟨by omega, h2, fun j h4 h5 => ?_⟩
      by_cases e : j = K
      · rw [e]; exact hun (by rcases c1 with c | c; exact .inl c; exact .inr (.inl c))
      · exact h3 j h4 (by omega)
    · rw [if_neg c1] at h
      have c2 : (ag l K).p = P := Classical.not_not.1 (fun h => c1 (.inr h))
      have c3 : (ag l K).t ≤ t := Int.not_lt.1 (fun h => c1 (.inl h))
      by_cases c4 : (ag l K).k = 4
      · rw [if_pos c4] at h; cases h
      · rw [if_neg c4] at h
        by_cases c5 : (ag l K).k = 3 ∧ t < (ag l K).u
        · rw [if_pos c5] at h
          cases h
          exact ⟨by omega, ln_iff.2 ⟨c5.1, c2, c3, c5.2⟩, fun j h1 h2 => by omega⟩
        · rw [if_neg c5] at h
          obtain ⟨h1, h2, h3⟩ := ih h
          refine ⟨by omega, h2, fun j h4 h5 => ?_⟩
          by_cases e : j = K
          · rw [e]; exact hun (.inr (.inr c4))
          · exact h3 j h4 (by omega)
set_option maxRecDepth 100000 in
set_option maxHeartbeats 400000 in
/-- The test of opens: no event that closes the place. -/
theorem un_call (x : Ac) (P t : Int) (G H : Nat) (w : World) (h0 : w.cell? ⟨G, 0, none⟩ = some (.int .i64 P)) (h1 : w.cell? ⟨H, 0, none⟩ = some (.int .i64 t)) (hG : G < w.heap.size) (hH : H < w.heap.size) (hx : (x.k == 4 && x.p == P && decide (x.t ≤ t)) = false) :
    Calls Tryz.prog 102 (#[.agg (acc x)] ++ #[.pointer (some ⟨G, 0, none⟩), .pointer (some ⟨H, 0, none⟩)]) w fun e w' => e = .returned (.bool false) ∧ Below w.heap.size w w' := by
  show Calls Tryz.prog 102 #[.agg (acc x), .pointer (some ⟨G, 0, none⟩), .pointer (some ⟨H, 0, none⟩)] w _
  obtain ⟨xt, xk, xp, xr, xu, xc, xf⟩ := x
  simp only at hx
  have HB := Lib.hid (box_below w (.cells (acc ⟨xt, xk, xp, xr, xu, xc, xf⟩) 76))
  have HN := Lib.hid (heap_alloc_new w (.cells (acc ⟨xt, xk, xp, xr, xu, xc, xf⟩) 76))
  obtain ⟨n0, n1, n2, n3, n4, n5, n6⟩ := accCells HN.out
  simp only at n0 n1 n2 n3 n4 n5 n6
  have m0 := (HB.out.cell (p := ⟨G, 0, none⟩) hG).trans h0
  have m1 := (HB.out.cell (p := ⟨H, 0, none⟩) hH).trans h1
  clear h0 h1
  by_cases g1 : xk = 4
  · have d1 : (xk == 4) = true := by rw [g1]; rfl
    by_cases g2 : xp = P
    · have d2 : (xp == P) = true := by rw [g2]; simp
      have d3 : decide (xt ≤ t) = false := by rw [d1, d2] at hx; simpa using hx
      clear g1 g2 hx
      go_enter Tryz.func102, Tryz.ntmps102
      go_wp2_with fail
      go_ret
      exact ⟨by first | rfl | simp, HB.out⟩
    · have d2 : (xp == P) = false := beq_eq_false_iff_ne.2 g2
      clear g1 g2 hx
      go_enter Tryz.func102, Tryz.ntmps102
      go_wp2_with fail
      go_ret
      exact ⟨by first | rfl | simp, HB.out⟩
  · have d1 : (xk == 4) = false := beq_eq_false_iff_ne.2 g1
    clear g1 hx
    go_enter Tryz.func102, Tryz.ntmps102
    go_wp2_with fail
    go_ret
    exact ⟨by first | rfl | simp, HB.out⟩
set_option maxRecDepth 100000 in
set_option maxHeartbeats 1000000 in
/-- IndexFunc over the test of opens, where no event closes the place. -/
theorem idx90_none (ee : Nat → Ac) (P t : Int) (G H n c : Nat) (A : Option Addr) (w : World) (hn : n ≤ 1000)
    (hac : ∀ w', Below w.heap.size w w' → ∀ j, j < n → ∃ b off, A = some ⟨b, off, none⟩ ∧ AcAt w' b (off + j * 7) (ee j))
    (h0 : w.cell? ⟨G, 0, none⟩ = some (.int .i64 P)) (h1 : w.cell? ⟨H, 0, none⟩ = some (.int .i64 t)) (hG : G < w.heap.size) (hH : H < w.heap.size)
    (hno : ∀ j, j < n → ((ee j).k == 4 && (ee j).p == P && decide ((ee j).t ≤ t)) = false) :
    Calls Tryz.prog 125 #[.slice A n c, .func (.func 102) #[] #[.pointer (some ⟨G, 0, none⟩), .pointer (some ⟨H, 0, none⟩)]] w fun e w' => e = .returned (.int .i64 (-1)) ∧ Below w.heap.size w w' := by
  have HA := Lib.hid hac
  have HC := Lib.hid (fun w' (hb : Below w.heap.size w w') j (hj : j < n) => un_call (ee j) P t G H w' ((hb.cell (p := ⟨G, 0, none⟩) hG).trans h0) ((hb.cell (p := ⟨H, 0, none⟩) hH).trans h1) (Nat.lt_of_lt_of_le hG hb.size) (Nat.lt_of_lt_of_le hH hb.size) (hno j hj))
  clear hac h0 h1 hno
  go_enter Tryz.func125, Tryz.ntmps125
  go_wp2
  go_loopw [8] (fun i wr => ∃ k : Nat, k ≤ n ∧ i = .int .i64 k ∧ Below w.heap.size w wr) (fun i _ => n - (intOf i).toNat)
  case atStart => exact ⟨0, by omega, rfl, Below.refl _ _⟩
  case round =>
    obtain ⟨k, hk, rfl, hbl⟩ := hrel
    have HBL := Lib.hid hbl
    by_cases hlt : k < n
    · obtain ⟨b, off, hA, hat⟩ := HA.out _ hbl k hlt
      subst hA
      obtain ⟨y0, y1, y2, y3, y4, y5, y6⟩ := hat
      have hc := HC.out _ hbl k hlt
      generalize ee k = x at *
      obtain ⟨xt, xk, xp, xr, xu, xc, xf⟩ := x
      simp only at y0 y1 y2 y3 y4 y5 y6
      unfold acc at hc
      simp only at hc
      have HCC := Lib.hid hc
      have j0 : (0 : Int) ≤ (k : Int) := by omega
      have j1 : (k : Int) < (n : Int) := by omega
      clear hbl hc
      go_wp2_with (go_at_call 102; refine HCC.out.mono ?_; rintro e w2 ⟨rfl, hb2⟩; have HB2 := Lib.hid (HBL.out.trans (hb2.mono HBL.out.size)); clear hb2)
      exact ⟨⟨k + 1, by omega, by go_num, HB2.out⟩, by simp [intOf]; omega⟩
    · obtain rfl : n = k := by omega
      go_wp2
      go_ret
      exact ⟨rfl, HBL.out⟩
set_option maxRecDepth 100000 in
set_option maxHeartbeats 400000 in
theorem cf74_none (ee : Nat → Ac) (P t : Int) (G H n c : Nat) (A : Option Addr) (w : World) (hn : n ≤ 1000)
    (hac : ∀ w', Below w.heap.size w w' → ∀ j, j < n → ∃ b off, A = some ⟨b, off, none⟩ ∧ AcAt w' b (off + j * 7) (ee j))
    (h0 : w.cell? ⟨G, 0, none⟩ = some (.int .i64 P)) (h1 : w.cell? ⟨H, 0, none⟩ = some (.int .i64 t)) (hG : G < w.heap.size) (hH : H < w.heap.size)
    (hno : ∀ j, j < n → ((ee j).k == 4 && (ee j).p == P && decide ((ee j).t ≤ t)) = false) :
    Calls Tryz.prog 101 #[.slice A n c, .func (.func 102) #[] #[.pointer (some ⟨G, 0, none⟩), .pointer (some ⟨H, 0, none⟩)]] w fun e w' => e = .returned (.bool false) ∧ Below w.heap.size w w' := by
  have HI := Lib.hid (idx90_none ee P t G H n c A w hn hac h0 h1 hG hH hno)
  clear hac h0 h1 hno hG hH
  go_enter Tryz.func101, Tryz.ntmps101
  go_wp2_with (go_at_call 125; refine HI.out.mono ?_; rintro e w1 ⟨rfl, hb1⟩; have HB := Lib.hid hb1; clear hb1)
  go_ret
  exact ⟨by first | rfl | simp, HB.out⟩
set_option maxRecDepth 100000 in
set_option maxHeartbeats 1000000 in
theorem hap_yes (a : Es) (v : Ve) (K P t : Int) (k : Nat) (w : World) (h : EL w 0 a v) (hm : a.e.length ≤ 120) (hk : k < a.e.length) (h1 : (ag a.e k).k = K) (h2 : (ag a.e k).p = P) (h3 : (ag a.e k).t ≤ t) :
    Calls Tryz.prog 100 #[.agg (ge a v), .int .i64 (k : Int), .int .i64 K, .int .i64 P, .int .i64 t] w fun e w' => e = .returned (.bool true) ∧ Below w.heap.size w w' := by
  obtain ⟨A, vc⟩ := v
  have HB0 := Lib.hid (box_below w (.cells (ge a ⟨A, vc⟩) 28))
  have R0 := Lib.hid (heap_alloc_new w (.cells (ge a ⟨A, vc⟩) 28))
  obtain ⟨c0, c1⟩ := geCells R0.out
  obtain ⟨b, off, hA, -, hbk, hac⟩ := Row.ac (Row.below h HB0.out) hk
  have hA : A = some ⟨b, off, none⟩ := hA
  subst hA
  obtain ⟨y0, y1, y2, y3, y4, y5, y6⟩ := hac
  generalize ag a.e k = x at *
  obtain ⟨xt, xk, xp, xr, xu, xc, xf⟩ := x
  simp only at y0 y1 y2 y3 y4 y5 y6 h1 h2 h3
  have hbx := box_below (w.alloc (.cells (ge a ⟨some ⟨b, off, none⟩, vc⟩) 28)) (.cells #[.int .i64 xt, .int .i64 xk, .int .i64 xp, .int .i64 xr, .int .i64 xu, .int .i64 xc, .int .i64 xf] 76)
  have BX := Lib.hid (HB0.out.trans (hbx.mono HB0.out.size))
  have XN := Lib.hid (heap_alloc_new (w.alloc (.cells (ge a ⟨some ⟨b, off, none⟩, vc⟩) 28)) (.cells #[.int .i64 xt, .int .i64 xk, .int .i64 xp, .int .i64 xr, .int .i64 xu, .int .i64 xc, .int .i64 xf] 76))
  obtain ⟨n0, n1, n2, n3, n4, n5, n6⟩ := accCells (x := ⟨xt, xk, xp, xr, xu, xc, xf⟩) XN.out
  simp only at n0 n1 n2 n3 n4 n5 n6
  have d1 : (xk == K) = true := by rw [h1]; simp
  have d2 : (xp == P) = true := by rw [h2]; simp
  have d3 : decide (xt ≤ t) = true := decide_eq_true h3
  have i0 : (0 : Int) ≤ (k : Int) := by omega
  have i1 : (k : Int) < (a.e.length : Int) := by omega
  have i2 : decide ((a.e.length : Int) ≤ (k : Int)) = false := decide_eq_false (by omega)
  have i3 : decide ((k : Int) < 0) = false := decide_eq_false (by omega)
  clear h h1 h2 h3 hbx
  go_enter Tryz.func100, Tryz.ntmps100
  go_wp2_with fail
  go_ret
  exact ⟨by first | rfl | simp, BX.out⟩
set_option maxRecDepth 100000 in
set_option maxHeartbeats 1000000 in
theorem eq1_any (x : Int) (X Y : Option Addr) (c c' : Nat) (w : World) (b o b' o' : Nat) (hX : X = some ⟨b, o, none⟩) (hY : Y = some ⟨b', o', none⟩) (h1 : w.cell? ⟨b, o, none⟩ = some (.int .i64 x)) (h2 : w.cell? ⟨b', o', none⟩ = some (.int .i64 x)) :
    Calls Tryz.prog 103 #[.slice X 1 c, .slice Y 1 c'] w fun e w' => e = .returned (.bool true) ∧ Below w.heap.size w w' := by
  subst hX hY
  have y1 : w.cell? ⟨b, o + 0 * 1, none⟩ = some (.int .i64 x) := by rw [Nat.zero_mul, Nat.add_zero]; exact h1
  have y2 : w.cell? ⟨b', o' + 0 * 1, none⟩ = some (.int .i64 x) := by rw [Nat.zero_mul, Nat.add_zero]; exact h2
  have e1 : (x != x) = false := by simp
  have HC1 := Lib.hid h1
  have HC2 := Lib.hid h2
  go_enter Tryz.func103, Tryz.ntmps103
  go_wp2_with fail
  go_loopw [13] (fun ii wr => ∃ k : Nat, k ≤ 1 ∧ ii = .int .i64 (k : Int) ∧ Below w.heap.size w wr ∧ wr.cell? ⟨b, o, none⟩ = some (.int .i64 x) ∧ wr.cell? ⟨b', o', none⟩ = some (.int .i64 x)) (fun ii _ => 1 - (intOf ii).toNat)
  case atStart => exact ⟨0, by omega, rfl, Below.refl _ _, HC1.out, HC2.out⟩
  case round =>
    obtain ⟨k, hk, rfl, hbl, z1, z2⟩ := hrel
    have HZ := Lib.hid (⟨hbl, z1, z2⟩ : Below w.heap.size w wr ∧ wr.cell? ⟨b, o, none⟩ = some (.int .i64 x) ∧ wr.cell? ⟨b', o', none⟩ = some (.int .i64 x))
    by_cases hlt : k = 0
    · subst hlt
      have d1 : decide (((0 : Nat) : Int) < 1) = true := by decide
      clear hbl y1 y2 h1 h2 HC1 HC2
      have z1' : wr.cell? ⟨b, o + 0 * 1, none⟩ = some (.int .i64 x) := by rw [Nat.zero_mul, Nat.add_zero]; exact z1
      have z2' : wr.cell? ⟨b', o' + 0 * 1, none⟩ = some (.int .i64 x) := by rw [Nat.zero_mul, Nat.add_zero]; exact z2
      go_upto_region 6 with fail
      go_quiet (fail)
      go_wp2_with fail
      exact ⟨⟨1, by omega, by first | rfl | go_num, below_dn3 HZ.out.1 _, HZ.out.2.1, HZ.out.2.2⟩, by simp [intOf]⟩
    · obtain rfl : k = 1 := by omega
      have d1 : decide (((1 : Nat) : Int) < 1) = false := by decide
      clear hbl y1 y2 h1 h2 HC1 HC2
      go_wp2_with fail
      go_ret
      exact ⟨by first | rfl | simp, HZ.out.1⟩
set_option maxRecDepth 100000 in
set_option maxHeartbeats 4000000 in
/-- A link that opens a place proves it. -/
theorem opens_yes (a : Es) (v : Ve) (P t : Int) (k : Nat) (w : World) (h : EL w 0 a v) (hm : a.e.length ≤ 120) (hc : a.e.length ≤ v.c) (hl : lkA a.e P t = some k) :
    Calls Tryz.prog 55 #[.agg (ge a v), .int .i64 (k : Int), .int .i64 P, .int .i64 t] w fun e w' => e = .returned (.bool true) ∧ Below w.heap.size w w' := by
  obtain ⟨A, vc⟩ := v
  replace hc : a.e.length ≤ vc := hc
  unfold lkA at hl
  obtain ⟨hk, hln, hun⟩ := lk_some _ _ _ _ _ hl
  obtain ⟨h1, h2, h3, h4⟩ := ln_iff.1 hln
  have hb3 := ((box_below w (.cells (ge a ⟨A, vc⟩) 28)).trans ((box_below (w.alloc (.cells (ge a ⟨A, vc⟩) 28)) (.cells #[.int .i64 P] 3)).mono (by simp))).trans ((box_below ((w.alloc (.cells (ge a ⟨A, vc⟩) 28)).alloc (.cells #[.int .i64 P] 3)) (.cells #[.int .i64 t] 3)).mono (by simp; omega))
  have r0 := (heap_alloc_old _ (.cells #[.int .i64 t] 3) (by simp; omega)).trans ((heap_alloc_old _ (.cells #[.int .i64 P] 3) (by simp)).trans (heap_alloc_new w (.cells (ge a ⟨A, vc⟩) 28)))
  have r1 := (heap_alloc_old _ (.cells #[.int .i64 t] 3) (by simp)).trans (heap_alloc_new (w.alloc (.cells (ge a ⟨A, vc⟩) 28)) (.cells #[.int .i64 P] 3))
  have r2 := heap_alloc_new ((w.alloc (.cells (ge a ⟨A, vc⟩) 28)).alloc (.cells #[.int .i64 P] 3)) (.cells #[.int .i64 t] 3)
  rw [show (w.alloc (.cells (ge a ⟨A, vc⟩) 28)).heap.size = w.heap.size + 1 by simp] at r1
  rw [show ((w.alloc (.cells (ge a ⟨A, vc⟩) 28)).alloc (.cells #[.int .i64 P] 3)).heap.size = w.heap.size + 1 + 1 by simp] at r2
  obtain ⟨b, off, hA, -, hbk, hac⟩ := Row.ac (Row.below h hb3) hk
  have hA : A = some ⟨b, off, none⟩ := hA
  subst hA
  obtain ⟨y0, y1, y2, y3, y4, y5, y6⟩ := hac
  have HUN := Lib.hid hun
  have HE := Lib.hid h
  have R0 := Lib.hid r0
  have R1 := Lib.hid r1
  have R2 := Lib.hid r2
  have HB3 := Lib.hid hb3
  obtain ⟨c0, c1⟩ := geCells r0
  have p1 := cell_of_row _ _ 0 _ _ _ r1
  have p2 := cell_of_row _ _ 0 _ _ _ r2
  have HAP := Lib.hid (fun w' (hb : Below w.heap.size w w') => hap_yes a ⟨some ⟨b, off, none⟩, vc⟩ 3 P t k w' (Row.below h hb) hm hk h1 h2 h3)
  have HF := Lib.hid (show (#[.int .i64 a.n, .slice (some ⟨b, off, none⟩) a.e.length vc] : Array Value) = ge a ⟨some ⟨b, off, none⟩, vc⟩ from rfl)
  have lR0 := row_lt r0
  have lR1 := row_lt r1
  have lR2 := row_lt r2
  have d4 : decide ((ag a.e k).u ≤ t) = false := decide_eq_false (by omega)
  have i0 : (0 : Int) ≤ (k : Int) := by omega
  have i1 : (k : Int) < (a.e.length : Int) := by omega
  generalize (ag a.e k).u = xu at *
  clear h hl hun h1 h2 h3 h4 hln r0 r1 r2 hb3 y0 y1 y2 y3 y5 y6
  go_enter Tryz.func55, Tryz.ntmps55
  go_upto_region 1 with fail
  generalize ((w.alloc (.cells (ge a ⟨some ⟨b, off, none⟩, vc⟩) 28)).alloc (.cells #[.int .i64 P] 3)).alloc (.cells #[.int .i64 t] 3) = W3 at *
  have hkp : ∀ w', Below W3.heap.size W3 w' → w'.cell? ⟨w.heap.size, 0, none⟩ = some (.int .i64 a.n) ∧ w'.cell? ⟨w.heap.size, 1, none⟩ = some (.slice (some ⟨b, off, none⟩) a.e.length vc) ∧ w'.cell? ⟨w.heap.size + 1, 0, none⟩ = some (.int .i64 P) ∧ w'.cell? ⟨w.heap.size + 1 + 1, 0, none⟩ = some (.int .i64 t) ∧ w'.cell? ⟨b, off + k * 7 + 4, none⟩ = some (.int .i64 xu) ∧ Below W3.heap.size W3 w' := fun w' hb =>
    ⟨(hb.cell (p := ⟨w.heap.size, 0, none⟩) lR0).trans c0, (hb.cell (p := ⟨w.heap.size, 1, none⟩) lR0).trans c1, (hb.cell (p := ⟨w.heap.size + 1, 0, none⟩) lR1).trans p1, (hb.cell (p := ⟨w.heap.size + 1 + 1, 0, none⟩) lR2).trans p2, (hb.cell (p := ⟨b, off + k * 7 + 4, none⟩) hbk).trans y4, hb⟩
  have HK := Lib.hid hkp
  have bz1 : Below W3.heap.size W3 W3.drew := (Below.refl W3.heap.size W3).drew
  have HB3' := Lib.hid (fun w' (hb : Below W3.heap.size W3 w') => HB3.out.trans (hb.mono HB3.out.size))
  clear hkp
  go_region_held3 (fun w' => w'.cell? ⟨w.heap.size, 0, none⟩ = some (.int .i64 a.n) ∧ w'.cell? ⟨w.heap.size, 1, none⟩ = some (.slice (some ⟨b, off, none⟩) a.e.length vc) ∧ w'.cell? ⟨w.heap.size + 1, 0, none⟩ = some (.int .i64 P) ∧ w'.cell? ⟨w.heap.size + 1 + 1, 0, none⟩ = some (.int .i64 t) ∧ w'.cell? ⟨b, off + k * 7 + 4, none⟩ = some (.int .i64 xu) ∧ Below W3.heap.size W3 w')
    (first | (with_reducible assumption) | (with_reducible exact HK.out _ (Below.refl _ _)) | (with_reducible exact HK.out _ bz1) | (with_reducible exact HK.out _ ba))
    (first | (go_at_call 100; rw [HF.out]; (with_reducible refine (HAP.out _ (HB3'.out _ ?_)).mono ?_); (go_split_ands; with_reducible assumption); rintro e wa ⟨rfl, hbb⟩; go_split_ands; have ba : Below W3.heap.size W3 wa := Below.trans (by with_reducible assumption) (hbb.mono (Below.size (by with_reducible assumption))); clear hbb))
  have ba' := ba
  have BA := Lib.hid ba'
  have BW := Lib.hid (HB3'.out _ ba')
  go_split_ands
  clear ba ba' bz1 c0 c1 p1 p2 y4
  obtain ⟨c0, c1, p1, p2, y4, -⟩ := HK.out _ BA.out
  obtain ⟨f, hf⟩ : ∃ f, k + 1 = f := ⟨_, rfl⟩
  have hw2 : (k : Int) + 1 = (f : Int) := by omega
  have hw3 : IntKind.i64.wrap (f : Int) = (f : Int) := IntWalk.i64_in _ (by omega)
  have HNO := Lib.hid (fun j (hj : j < a.e.length - f) => HUN.out (f + j) (by omega) (by omega))
  have hl1 : w.heap.size + 1 < wa.heap.size := Nat.lt_of_lt_of_le lR1 BA.out.size
  have hl2 : w.heap.size + 1 + 1 < wa.heap.size := Nat.lt_of_lt_of_le lR2 BA.out.size
  by_cases hcf : vc = f
  · obtain ⟨n, hn⟩ : ∃ n, a.e.length = n := ⟨_, rfl⟩
    have hnf : n = f := by omega
    have HCF := Lib.hid (cf74_none (fun j => ag a.e (f + j)) P t (w.heap.size + 1) (w.heap.size + 1 + 1) 0 0 (some ⟨b, off, none⟩) wa (by omega) (fun _ _ j hj => absurd hj (by omega)) p1 p2 hl1 hl2 (fun j hj => absurd hj (by omega)))
    subst hnf
    subst hcf
    have hz : (vc : Int) - (vc : Int) = 0 := by omega
    clear y4
    go_wp2_with (go_at_call 101; (with_reducible refine HCF.out.mono ?_); rintro e wb ⟨rfl, hb2⟩; have BB := Lib.hid (BW.out.trans (hb2.mono BW.out.size)); clear hb2)
    go_ret
    exact ⟨by first | rfl | simp, BB.out⟩
  · have hcf2 : ¬ (vc : Int) = (f : Int) := by omega
    have HAC := Lib.hid (fun w' (hb : Below wa.heap.size wa w') j (hj : j < a.e.length - f) => Row.ac (i := f + j) (Row.below HE.out (BW.out.trans (hb.mono BW.out.size))) (show f + j < a.e.length by omega))
    have HCF := Lib.hid (fun c => cf74_none (fun j => ag a.e (f + j)) P t (w.heap.size + 1) (w.heap.size + 1 + 1) (a.e.length - f) c (some ⟨b, off + f * 7, none⟩) wa (by omega) (fun w' hb j hj => by
      obtain ⟨b', off', hA', -, -, hac⟩ := HAC.out w' hb j hj
      injection hA' with hA'
      injection hA' with hA1 hA2
      subst hA1
      obtain rfl : off = off' := hA2
      refine ⟨_, _, rfl, ?_⟩
      rw [show off + f * 7 + j * 7 = off + (f + j) * 7 by omega]
      exact hac) p1 p2 hl1 hl2 (fun j hj => HNO.out j hj))
    clear y4
    go_wp2_with (go_at_call 101; (with_reducible refine (HCF.out _).mono ?_); rintro e wb ⟨rfl, hb2⟩; have BB := Lib.hid (BW.out.trans (hb2.mono BW.out.size)); clear hb2)
    go_ret
    exact ⟨by first | rfl | simp, BB.out⟩

end Go.Proofs.YtgknfkmojhganaaGreat.Di

namespace Go.Proofs.YtgknfkmojhganaaGreat.Di
open Go.RowKit
open Go.Proofs.YtgknfkmojhganaaGreat.Tp
set_option linter.unusedVariables false
set_option linter.unusedSimpArgs false

set_option maxRecDepth 100000 in
set_option maxHeartbeats 4000000 in
/-- A reading with a chain: its grant holds, and the chain leads there. -/
theorem grants_ch (d : Dy) (v : Vd) (a : Es) (u : Ve) (p P t q gk cs : Nat) (As : Option Addr) (l : List Nat) (w : World) (h : DL w 0 d v) (hok : Ok d) (he : EL w 0 a u) (hea : Eok a) (hP : (P : Int) < a.n) (hq : q < d.k.length)
    (hgr : grA a.e (P : Int) (t : Int) (q : Int) = some gk) (hl : Row w 0 1 As l.length (iv l)) (hch : Chain (dm d t) d.k.length p q l) (hpq : q ≠ p) (hcs : l.length ≤ cs) :
    Calls Tryz.prog 56 #[.agg (gd d v), .agg (ge a u), .int .i64 (p : Int), .agg (rc (P : Int) (t : Int) (-1) (gk : Int) As l.length cs)] w fun e w' => e = .returned (.bool true) ∧ Below w.heap.size w w' := by
  obtain ⟨A, vc⟩ := u
  obtain ⟨nn, hnn⟩ : ∃ nn, l.length = nn := ⟨_, rfl⟩
  rw [hnn] at hl hcs ⊢
  have HNN := Lib.hid hnn
  clear hnn
  have hbx := (box_below w (.cells (gd d v) 25)).trans ((box_below (w.alloc (.cells (gd d v) 25)) (.cells (ge a ⟨A, vc⟩) 28)).mono (by simp))
  have hw1 : ((w.alloc (.cells (gd d v) 25)).alloc (.cells (ge a ⟨A, vc⟩) 28)).heap.size = w.heap.size + 1 + 1 := by simp
  have D1 := heap_alloc2_old w (.cells (gd d v) 25) (.cells (ge a ⟨A, vc⟩) 28)
  have E1 := heap_alloc2_new w (.cells (gd d v) 25) (.cells (ge a ⟨A, vc⟩) 28)
  have hn := hok.n
  have hbz := box_below ((w.alloc (.cells (gd d v) 25)).alloc (.cells (ge a ⟨A, vc⟩) 28)) (.cells (rc (P : Int) (t : Int) (-1) (gk : Int) As nn cs) 30)
  have hbxz := hbx.trans (hbz.mono hbx.size)
  have HBX := Lib.hid hbxz
  have D2 := Lib.hid ((hbz.block _ (row_lt D1)).trans D1)
  have E2 := Lib.hid ((hbz.block _ (row_lt E1)).trans E1)
  have Z2 := heap_alloc_new ((w.alloc (.cells (gd d v) 25)).alloc (.cells (ge a ⟨A, vc⟩) 28)) (.cells (rc (P : Int) (t : Int) (-1) (gk : Int) As nn cs) 30)
  rw [hw1] at Z2
  have HZ := Lib.hid Z2
  obtain ⟨g0, g1⟩ := gdCells D2.out
  obtain ⟨c0, c1⟩ := geCells E2.out
  obtain ⟨r0, r1, r2, r3, r4⟩ := rcCells Z2
  have hgl := gr_lt _ _ _ _ _ _ hgr
  obtain ⟨x1, x2, x3, x4, -⟩ := gr_is _ _ _ _ _ _ hgr
  have hm := hea.m
  have HHP := Lib.hid (fun w' (hb : Below w.heap.size w w') => hap_yes a ⟨A, vc⟩ 1 (P : Int) (t : Int) gk w' (Row.below he hb) (by omega) hgl x1 x2 x4)
  have hgy := fun w' (hb : Below w.heap.size w w') => grant_yes a ⟨A, vc⟩ (P : Int) (q : Int) (t : Int) w' (Row.below he hb) ⟨hea, by omega, hP⟩ (WalkArith.wf_i64 (by omega))
  rw [hgr] at hgy
  have HGY := Lib.hid hgy
  have HEV := Lib.hid (fun w' (hb : Below w.heap.size w w') => Row.ac (Row.below he hb) hgl)
  have HLV := Lib.hid (fun w' (hb : Below w.heap.size w w') i (hi : i < nn) => (Row.below hl hb).int hi)
  have hl2 := hch.two
  have hln := hch.le
  have hhd := hch.hd
  have hla := hch.last
  have HRP := Lib.hid (fun w' (hb : Below w.heap.size w w') => by have := proves_any 0 d v t p q cs As l w' (h.below hb) hok (by rw [HNN.out]; exact Row.below hl hb) hch (by rw [HNN.out]; exact hcs); rwa [HNN.out] at this)
  have hqp : ((q : Int) == (p : Int)) = false := beq_eq_false_iff_ne.2 (by omega)
  obtain ⟨ln, hlen⟩ : ∃ ln, nn = ln + 1 := ⟨nn - 1, by have := HNN.out; omega⟩
  have hl24 : nn ≤ 24 := by have := HNN.out; omega
  have e1 : ((p : Int) == (p : Int)) = true := by simp
  have e3 : ((q : Int) == (q : Int)) = true := by simp
  have hw0 : IntKind.i64.wrap ((nn : Int) - 1) = (ln : Int) := by rw [show (nn : Int) - 1 = (ln : Int) by omega]; exact IntWalk.i64_in _ (by omega)
  have hw2 : IntKind.i64.wrap (ln : Int) = (ln : Int) := IntWalk.i64_in _ (by omega)
  have j0 : (0 : Int) < (nn : Int) := by omega
  have j1 : (0 : Int) ≤ (ln : Int) := by omega
  have j2 : (ln : Int) < (nn : Int) := by omega
  rw [HNN.out, show nn - 1 = ln by omega] at hla
  have jl : ln < nn := by omega
  have jz : 0 < nn := by omega
  clear hlen hl2 hln hch
  have HFD := Lib.hid (show (#[.slice v.A1 d.k.length v.c1, .slice v.A2 d.e.length v.c2] : Array Value) = gd d v from rfl)
  have HFE := Lib.hid (show (#[.int .i64 a.n, .slice A a.e.length vc] : Array Value) = ge a ⟨A, vc⟩ from rfl)
  have lD := row_lt D2.out
  have lE := row_lt E2.out
  have lZ := row_lt Z2
  clear h hok he hea hP hgr hl hbx hbz hbxz hw1 D1 E1 Z2 hgy x1 x2 x4
  have i0 : (0 : Int) ≤ (gk : Int) := by omega
  have i1 : (gk : Int) < (a.e.length : Int) := by omega
  go_enter Tryz.func56, Tryz.ntmps56
  go_wp2_with (first
    | (go_at_call 100; rw [HFE.out]; refine (HHP.out _ HBX.out).mono ?_; rintro e w1 ⟨rfl, hb1⟩; have B1 := Lib.hid (HBX.out.trans (hb1.mono HBX.out.size)); have D3 := Lib.hid ((hb1.block _ lD).trans D2.out); have E3 := Lib.hid ((hb1.block _ lE).trans E2.out); have Z3 := Lib.hid ((hb1.block _ lZ).trans HZ.out); clear hb1 g0 g1 c0 c1 r0 r1 r2 r3 r4; obtain ⟨c0, c1⟩ := geCells E3.out; obtain ⟨r0, r1, r2, r3, r4⟩ := rcCells Z3.out; obtain ⟨b, off, hA, -, hbk, hac⟩ := HEV.out w1 B1.out; have hA : A = some ⟨b, off, none⟩ := hA; subst hA; obtain ⟨y0, y1, y2, y3, y4, y5, y6⟩ := hac; rw [x3] at y3)
    | (go_at_call 50; rw [HFE.out]; refine (HGY.out _ B1.out).mono ?_; rintro e w2 ⟨rfl, hb2⟩; have B2 := Lib.hid (B1.out.trans (hb2.mono B1.out.size)); have D4 := Lib.hid ((hb2.block _ (row_lt D3.out)).trans D3.out); have Z4 := Lib.hid ((hb2.block _ (row_lt Z3.out)).trans Z3.out); clear hb2 c0 c1 r0 r1 r2 r3 r4 y0 y1 y2 y3 y4 y5 y6; obtain ⟨g0, g1⟩ := gdCells D4.out; obtain ⟨r0, r1, r2, r3, r4⟩ := rcCells Z4.out; (try simp only [Option.isSome]))
    | (go_at_call 104; rw [HFD.out]; refine (HRP.out _ B2.out).mono ?_; rintro e w3 ⟨rfl, hb3⟩; have BF := Lib.hid (B2.out.trans (hb3.mono B2.out.size)); have Z5 := Lib.hid ((hb3.block _ (row_lt Z4.out)).trans Z4.out); clear hb3 g0 g1 r0 r1 r2 r3 r4; obtain ⟨r0, r1, r2, r3, r4⟩ := rcCells Z5.out; obtain ⟨bw, ow, hAs, -, -, y9⟩ := HLV.out w3 BF.out 0 jz; rw [hhd, Nat.add_zero] at y9; subst hAs; obtain ⟨bw2, ow2, hAs2, -, -, z9⟩ := HLV.out _ BF.out ln jl; cases hAs2; rw [hla] at z9))
  go_ret
  exact ⟨by first | rfl | simp, BF.out⟩
set_option maxRecDepth 100000 in
set_option maxHeartbeats 4000000 in
/-- A reading of a grant for the reader itself. -/
theorem grants_one (d : Dy) (v : Vd) (a : Es) (u : Ve) (p P t q gk cs : Nat) (As : Option Addr) (l : List Nat) (w : World) (h : DL w 0 d v) (hok : Ok d) (he : EL w 0 a u) (hea : Eok a) (hP : (P : Int) < a.n) (hq : q < d.k.length)
    (hgr : grA a.e (P : Int) (t : Int) (q : Int) = some gk) (hl : Row w 0 1 As l.length (iv l)) (hqp1 : q = p) (hl1 : l = [p]) (hcs : l.length ≤ cs) :
    Calls Tryz.prog 56 #[.agg (gd d v), .agg (ge a u), .int .i64 (p : Int), .agg (rc (P : Int) (t : Int) (-1) (gk : Int) As l.length cs)] w fun e w' => e = .returned (.bool true) ∧ Below w.heap.size w w' := by
  obtain ⟨A, vc⟩ := u
  subst hqp1
  subst hl1
  rw [show ([q] : List Nat).length = 1 from rfl] at hl hcs ⊢
  have hbx := (box_below w (.cells (gd d v) 25)).trans ((box_below (w.alloc (.cells (gd d v) 25)) (.cells (ge a ⟨A, vc⟩) 28)).mono (by simp))
  have hw1 : ((w.alloc (.cells (gd d v) 25)).alloc (.cells (ge a ⟨A, vc⟩) 28)).heap.size = w.heap.size + 1 + 1 := by simp
  have D1 := heap_alloc2_old w (.cells (gd d v) 25) (.cells (ge a ⟨A, vc⟩) 28)
  have E1 := heap_alloc2_new w (.cells (gd d v) 25) (.cells (ge a ⟨A, vc⟩) 28)
  have hn := hok.n
  have hbz := box_below ((w.alloc (.cells (gd d v) 25)).alloc (.cells (ge a ⟨A, vc⟩) 28)) (.cells (rc (P : Int) (t : Int) (-1) (gk : Int) As 1 cs) 30)
  have hbxz := hbx.trans (hbz.mono hbx.size)
  have HBX := Lib.hid hbxz
  have D2 := Lib.hid ((hbz.block _ (row_lt D1)).trans D1)
  have E2 := Lib.hid ((hbz.block _ (row_lt E1)).trans E1)
  have Z2 := heap_alloc_new ((w.alloc (.cells (gd d v) 25)).alloc (.cells (ge a ⟨A, vc⟩) 28)) (.cells (rc (P : Int) (t : Int) (-1) (gk : Int) As 1 cs) 30)
  rw [hw1] at Z2
  have HZ := Lib.hid Z2
  obtain ⟨g0, g1⟩ := gdCells D2.out
  obtain ⟨c0, c1⟩ := geCells E2.out
  obtain ⟨r0, r1, r2, r3, r4⟩ := rcCells Z2
  have hgl := gr_lt _ _ _ _ _ _ hgr
  obtain ⟨x1, x2, x3, x4, -⟩ := gr_is _ _ _ _ _ _ hgr
  have hm := hea.m
  have HHP := Lib.hid (fun w' (hb : Below w.heap.size w w') => hap_yes a ⟨A, vc⟩ 1 (P : Int) (t : Int) gk w' (Row.below he hb) (by omega) hgl x1 x2 x4)
  have hgy := fun w' (hb : Below w.heap.size w w') => grant_yes a ⟨A, vc⟩ (P : Int) (q : Int) (t : Int) w' (Row.below he hb) ⟨hea, by omega, hP⟩ (WalkArith.wf_i64 (by omega))
  rw [hgr] at hgy
  have HGY := Lib.hid hgy
  have HEV := Lib.hid (fun w' (hb : Below w.heap.size w w') => Row.ac (Row.below he hb) hgl)
  have HLV := Lib.hid (fun w' (hb : Below w.heap.size w w') i (hi : i < 1) => (Row.below hl hb).int hi)
  have e1 : ((q : Int) == (q : Int)) = true := by simp
  have HFD := Lib.hid (show (#[.slice v.A1 d.k.length v.c1, .slice v.A2 d.e.length v.c2] : Array Value) = gd d v from rfl)
  have HFE := Lib.hid (show (#[.int .i64 a.n, .slice A a.e.length vc] : Array Value) = ge a ⟨A, vc⟩ from rfl)
  have lD := row_lt D2.out
  have lE := row_lt E2.out
  have lZ := row_lt Z2
  clear h hok he hea hP hgr hl hbx hbz hbxz hw1 D1 E1 Z2 hgy x1 x2 x4
  have i0 : (0 : Int) ≤ (gk : Int) := by omega
  have i1 : (gk : Int) < (a.e.length : Int) := by omega
  go_enter Tryz.func56, Tryz.ntmps56
  go_wp2_with (first
    | (go_at_call 100; rw [HFE.out]; refine (HHP.out _ HBX.out).mono ?_; rintro e w1 ⟨rfl, hb1⟩; have B1 := Lib.hid (HBX.out.trans (hb1.mono HBX.out.size)); have D3 := Lib.hid ((hb1.block _ lD).trans D2.out); have E3 := Lib.hid ((hb1.block _ lE).trans E2.out); have Z3 := Lib.hid ((hb1.block _ lZ).trans HZ.out); clear hb1 g0 g1 c0 c1 r0 r1 r2 r3 r4; obtain ⟨c0, c1⟩ := geCells E3.out; obtain ⟨r0, r1, r2, r3, r4⟩ := rcCells Z3.out; obtain ⟨b, off, hA, -, hbk, hac⟩ := HEV.out w1 B1.out; have hA : A = some ⟨b, off, none⟩ := hA; subst hA; obtain ⟨y0, y1, y2, y3, y4, y5, y6⟩ := hac; rw [x3] at y3)
    | (go_at_call 50; rw [HFE.out]; refine (HGY.out _ B1.out).mono ?_; rintro e w2 ⟨rfl, hb2⟩; have B2 := Lib.hid (B1.out.trans (hb2.mono B1.out.size)); have D4 := Lib.hid ((hb2.block _ (row_lt D3.out)).trans D3.out); have Z4 := Lib.hid ((hb2.block _ (row_lt Z3.out)).trans Z3.out); clear hb2 c0 c1 r0 r1 r2 r3 r4 y0 y1 y2 y3 y4 y5 y6; obtain ⟨g0, g1⟩ := gdCells D4.out; obtain ⟨r0, r1, r2, r3, r4⟩ := rcCells Z4.out; (try simp only [Option.isSome]); obtain ⟨bw, ow, hAs, -, lbw, y9⟩ := HLV.out w2 B2.out 0 (by simp); subst hAs; have BN := Lib.hid (box_below w2 (.cells #[.int .i64 (q : Int)] 3)); have HNN := Lib.hid (heap_alloc_new w2 (.cells #[.int .i64 (q : Int)] 3)); have HEQ := Lib.hid (eq1_any (q : Int) (some ⟨bw, ow, none⟩) (some ⟨w2.heap.size, 0, none⟩) cs 1 (w2.alloc (.cells #[.int .i64 (q : Int)] 3)) bw ow w2.heap.size 0 rfl rfl ((BN.out.cell (p := ⟨bw, ow, none⟩) lbw).trans (by simpa using y9)) (by rw [cell_of_row _ _ _ _ _ _ HNN.out]; rfl)))
    | (go_at_call 103; (with_reducible refine HEQ.out.mono ?_); rintro e w5 ⟨rfl, hb5⟩; have BF := Lib.hid (B2.out.trans ((BN.out.trans (hb5.mono BN.out.size)).mono B2.out.size)); clear hb5))
  go_ret
  exact ⟨by first | rfl | simp, BF.out⟩
set_option maxRecDepth 100000 in
set_option maxHeartbeats 4000000 in
/-- The product finds that a reading proves. -/
theorem pproves_any (d : Dy) (v : Vd) (a : Es) (u : Ve) (p P t cs : Nat) (lk gk : Int) (As : Option Addr) (l : List Nat) (w : World) (h : DL w 0 d v) (hok : Ok d) (he : EL w 0 a u) (hea : Eok a) (hP : (P : Int) < a.n) (hrb : rB d p = true) (hcap : a.e.length ≤ u.c)
    (hR : Rdg d a p P t lk gk l) (hl : Row w 0 1 As l.length (iv l)) (hcs : l.length ≤ cs) :
    Calls Tryz.prog 21 #[.agg (gd d v), .agg (ge a u), .int .i64 (p : Int), .agg (rc (P : Int) (t : Int) lk gk As l.length cs)] w fun e w' => e = .returned (.bool true) ∧ Below w.heap.size w w' := by
  have hbx := (box_below w (.cells (gd d v) 25)).trans ((box_below (w.alloc (.cells (gd d v) 25)) (.cells (ge a u) 28)).mono (by simp))
  have hw1 : ((w.alloc (.cells (gd d v) 25)).alloc (.cells (ge a u) 28)).heap.size = w.heap.size + 1 + 1 := by simp
  have D1 := heap_alloc2_old w (.cells (gd d v) 25) (.cells (ge a u) 28)
  have E1 := heap_alloc2_new w (.cells (gd d v) 25) (.cells (ge a u) 28)
  obtain ⟨nn, hnn⟩ : ∃ nn, l.length = nn := ⟨_, rfl⟩
  rw [hnn]
  have hbz := box_below ((w.alloc (.cells (gd d v) 25)).alloc (.cells (ge a u) 28)) (.cells (rc (P : Int) (t : Int) lk gk As nn cs) 30)
  have hbxz := hbx.trans (hbz.mono hbx.size)
  have HBX := Lib.hid hbxz
  have D2 := Lib.hid ((hbz.block _ (row_lt D1)).trans D1)
  have E2 := Lib.hid ((hbz.block _ (row_lt E1)).trans E1)
  have Z2 := heap_alloc_new ((w.alloc (.cells (gd d v) 25)).alloc (.cells (ge a u) 28)) (.cells (rc (P : Int) (t : Int) lk gk As nn cs) 30)
  rw [hw1] at Z2
  have HZ := Lib.hid Z2
  have hn := hok.n
  have hm := hea.m
  obtain ⟨g0, g1⟩ := gdCells D2.out
  obtain ⟨c0, c1⟩ := geCells E2.out
  obtain ⟨r0, r1, r2, r3, r4⟩ := rcCells Z2
  have hex := exr_any d v a u p P _ (h.below hbxz) hok (Row.below he hbxz) hea hP
  rw [hrb] at hex
  have HEX := Lib.hid hex
  have HFD := Lib.hid (show (#[.slice v.A1 d.k.length v.c1, .slice v.A2 d.e.length v.c2] : Array Value) = gd d v from rfl)
  have HFE := Lib.hid (show (#[.int .i64 a.n, .slice u.A a.e.length u.c] : Array Value) = ge a u from rfl)
  have HFR := Lib.hid (show ∀ lk gk : Int, (#[.int .i64 (P : Int), .int .i64 (t : Int), .int .i64 lk, .int .i64 gk, .slice As nn cs] : Array Value) = rc (P : Int) (t : Int) lk gk As nn cs from fun _ _ => rfl)
  have lD := row_lt D2.out
  have lE := row_lt E2.out
  have lZ := row_lt Z2
  rcases hR with ⟨h1, h2, h3, h4⟩ | ⟨h1, h2, q, g, h3, h4, h5, h6⟩
  · obtain ⟨k, hk⟩ := Option.isSome_iff_exists.1 h1
    rw [hk] at h2
    obtain rfl : lk = (k : Int) := h2
    subst h3
    subst h4
    obtain rfl : nn = 0 := hnn.symm
    have HOP := Lib.hid (fun w' (hb : Below w.heap.size w w') => opens_yes a u (P : Int) (t : Int) k w' (Row.below he hb) hm hcap hk)
    clear h hok he hea hP hrb hcap hl hcs hbx hw1 D1 E1 hbz hbxz Z2 hex h1 hk
    go_enter Tryz.func21, Tryz.ntmps21
    go_wp2_with (first
      | (go_at_call 48; rw [HFD.out, HFE.out]; refine HEX.out.mono ?_; rintro e w1 ⟨rfl, hb1⟩; have B1 := Lib.hid (HBX.out.trans (hb1.mono HBX.out.size)); have E3 := Lib.hid ((hb1.block _ lE).trans E2.out); have Z3 := Lib.hid ((hb1.block _ lZ).trans HZ.out); clear hb1 g0 g1 c0 c1 r0 r1 r2 r3 r4; obtain ⟨c0, c1⟩ := geCells E3.out; obtain ⟨r0, r1, r2, r3, r4⟩ := rcCells Z3.out)
      | (go_at_call 55; rw [HFE.out]; refine (HOP.out _ B1.out).mono ?_; rintro e w2 ⟨rfl, hb2⟩; have BF := Lib.hid (B1.out.trans (hb2.mono B1.out.size)); clear hb2))
    go_ret
    exact ⟨by first | rfl | simp, BF.out⟩
  · subst h2
    subst h3
    have hgt := fun w' (hb : Below w.heap.size w w') => show Calls Tryz.prog 56 #[.agg (gd d v), .agg (ge a u), .int .i64 (p : Int), .agg (rc (P : Int) (t : Int) (-1) (g : Int) As nn cs)] w' fun e w'' => e = .returned (.bool true) ∧ Below w'.heap.size w' w'' by
      rw [← hnn]
      rcases h6 with ⟨hq, hL⟩ | ⟨hq, hch⟩
      · exact grants_one d v a u p P t q g cs As l w' (h.below hb) hok (Row.below he hb) hea hP h4 h5 (Row.below hl hb) hq hL hcs
      · exact grants_ch d v a u p P t q g cs As l w' (h.below hb) hok (Row.below he hb) hea hP h4 h5 (Row.below hl hb) hch hq hcs
    have HGT := Lib.hid hgt
    have e1 : ((g : Int) == -1) = false := beq_eq_false_iff_ne.2 (by omega)
    clear h hok he hea hP hrb hcap hl hcs hbx hw1 D1 E1 hbz hbxz Z2 hex h1 h5 h6 hgt hnn
    go_enter Tryz.func21, Tryz.ntmps21
    go_wp2_with (first
      | (go_at_call 48; rw [HFD.out, HFE.out]; refine HEX.out.mono ?_; rintro e w1 ⟨rfl, hb1⟩; have B1 := Lib.hid (HBX.out.trans (hb1.mono HBX.out.size)); have D3 := Lib.hid ((hb1.block _ lD).trans D2.out); have E3 := Lib.hid ((hb1.block _ lE).trans E2.out); have Z3 := Lib.hid ((hb1.block _ lZ).trans HZ.out); clear hb1 g0 g1 c0 c1 r0 r1 r2 r3 r4; obtain ⟨g0, g1⟩ := gdCells D3.out; obtain ⟨c0, c1⟩ := geCells E3.out; obtain ⟨r0, r1, r2, r3, r4⟩ := rcCells Z3.out)
      | (go_at_call 56; rw [HFD.out, HFE.out, HFR.out]; refine (HGT.out _ B1.out).mono ?_; rintro e w2 ⟨rfl, hb2⟩; have BF := Lib.hid (B1.out.trans (hb2.mono B1.out.size)); clear hb2))
    go_ret
    exact ⟨by first | rfl | simp, BF.out⟩

end Go.Proofs.YtgknfkmojhganaaGreat.Di
