import Derived.Test.YtgknfkmojhganaaGreatDiT
namespace Go.Proofs.YtgknfkmojhganaaGreat.Di
open Go.RowKit
open Go.Proofs.YtgknfkmojhganaaGreat.Tp
set_option linter.unusedVariables false

/-- How many are not reached. -/
def zer (th : List Nat) (n : Nat) : Nat := cnt (fun j => th.getD j 0 == 0) n
theorem cnt_less {p q : Nat → Bool} {g : Nat} (hp : p g = true) (hq : q g = false) (h : ∀ j, j ≠ g → q j = p j) : ∀ n, g < n → cnt q n + 1 = cnt p n
  | 0, hg => absurd hg (by omega)
  | n + 1, hg => by
    rw [cnt, cnt]
    by_cases e : g = n
    · subst e
      rw [hp, hq, cnt_congr g (fun j hj => h j (by omega))]
      simp
    · have := cnt_less hp hq h n (by omega)
      rw [h n (fun e2 => e e2.symm)]
      split <;> omega
theorem zer_set {th : List Nat} {n g x : Nat} (hl : th.length = n) (hg : g < n) (h0 : th.getD g 0 = 0) : zer (th.set g (x + 1)) n + 1 = zer th n := by
  refine cnt_less (g := g) (by simp only [h0]; rfl) ?_ (fun j hj => ?_) n hg
  · simp only [getD_set (l := th) (show g < th.length by omega), if_pos]
    exact beq_eq_false_iff_ne.2 (by omega)
  · simp only [getD_set (l := th) (show g < th.length by omega), if_neg hj]
/-- The same, as it stands in memory. -/
def zw (w : World) (H n : Nat) : Nat := cnt (fun j => match w.cell? ⟨H, j, none⟩ with | some (.int _ x) => x == -1 | _ => false) n
theorem zw_eq {w : World} {B n H : Nat} {th : List Nat} (h : w.ownsRow B 3 1 (.slice (some ⟨H, 0, none⟩) n n) n (tv th)) : zw w H n = zer th n := by
  have r := row_of_own h
  refine cnt_congr n fun j hj => ?_
  obtain ⟨b, off, e, -, -, hc⟩ := r.thr hj
  cases e
  rw [Nat.zero_add] at hc
  rw [hc]
  show (((th.getD j 0 : Nat) : Int) - 1 == -1) = (th.getD j 0 == 0)
  by_cases e : th.getD j 0 = 0
  · rw [e]; rfl
  · rw [beq_eq_false_iff_ne.2 (show ((th.getD j 0 : Nat) : Int) - 1 ≠ -1 by omega), beq_eq_false_iff_ne.2 e]
def lenOf (v : Value) : Nat := match v with | .slice _ n _ => n | _ => 0
theorem tv_rep (n : Nat) : tv (List.replicate n 0) = List.replicate n (.int .i64 (-1)) := by
  unfold tv
  rw [List.map_replicate]
  rfl

/-- The walk upward within one principal's groups. -/
structure In1 (M : Nat → Nat → Bool) (n p k m g u S : Nat) (th L : List Nat) : Prop where
  b : Bfs M n p th L
  len : L.length = k + m
  m1 : 1 ≤ m
  s : Shut M n L k
  hd : L.getD k 0 = u
  so : ∀ q, q < g → M u q = true → ∃ j, j < L.length ∧ L.getD j 0 = q
  sum : m + zer th n = S
theorem In1.skip {M : Nat → Nat → Bool} {n p k m g u S : Nat} {th L : List Nat} (h : In1 M n p k m g u S th L) (hg : g < n) (hm : M u g = false ∨ 0 < th.getD g 0) : In1 M n p k m (g + 1) u S th L := by
  refine ⟨h.b, h.len, h.m1, h.s, h.hd, fun q hq hmq => ?_, h.sum⟩
  by_cases e : q = g
  · subst e
    rcases hm with hm | hm
    · rw [hm] at hmq; cases hmq
    · exact (h.b.seen q hg).1 hm
  · exact h.so q (by omega) hmq
theorem In1.new {M : Nat → Nat → Bool} {n p k m g u S : Nat} {th L : List Nat} (h : In1 M n p k m g u S th L) (hg : g < n) (hm : M u g = true) (h0 : th.getD g 0 = 0) : In1 M n p k (m + 1) (g + 1) u S (th.set g (u + 1)) (L ++ [g]) := by
  have hl := h.len
  have hm1 := h.m1
  have hb := h.b.new (k := k) (by omega) hg (by rw [h.hd]; exact hm) h0
  rw [h.hd] at hb
  have hz := zer_set (x := u) h.b.len hg h0
  have hs := h.sum
  refine ⟨hb, by simp; omega, by omega, h.s.snoc (by omega), by rw [getD_snoc_left (by omega)]; exact h.hd, fun q hq hmq => ?_, by omega⟩
  by_cases e : q = g
  · subst e
    exact ⟨L.length, by simp, getD_snoc_end⟩
  · obtain ⟨j, hj, e2⟩ := h.so q (by omega) hmq
    exact ⟨j, by simp; omega, by rw [getD_snoc_left hj]; exact e2⟩
theorem In1.shut {M : Nat → Nat → Bool} {n p k m u S : Nat} {th L : List Nat} (h : In1 M n p k m n u S th L) : Shut M n L (k + 1) := fun i hi hl g hg hmg => by
  by_cases e : i = k
  · subst e
    rw [h.hd] at hmg
    exact h.so g hg hmg
  · exact h.s i (by omega) hl g hg hmg
theorem iv_drop {L : List Nat} {k : Nat} (h : k < L.length) : (iv (L.drop k))[0]? = some (.int .i64 ((L.getD k 0 : Nat) : Int)) := by
  rw [iv_at _ _ (by simp; omega), show (L.drop k).getD 0 0 = L.getD k 0 by rw [List.getD_eq_getElem?_getD, List.getD_eq_getElem?_getD, List.getElem?_drop, Nat.add_zero]]
theorem iv_drop_snoc {L : List Nat} {k g : Nat} (h : k ≤ L.length) : iv ((L ++ [g]).drop k) = iv (L.drop k) ++ [.int .i64 (g : Int)] := by
  rw [List.drop_append_of_le_length h, iv_snoc]
theorem iv_drop_one {L : List Nat} {k : Nat} : (iv (L.drop k)).drop 1 = iv (L.drop (k + 1)) := by
  unfold iv
  rw [← List.map_drop, List.drop_drop]

def UpPost (M : Nat → Nat → Bool) (n p : Nat) (w : World) (e : Ending) (w' : World) : Prop := ∃ H th L, e = .returned (.slice (some ⟨H, 0, none⟩) n n) ∧ Bfs M n p th L ∧ Shut M n L L.length ∧ Row w' w.heap.size 1 (some ⟨H, 0, none⟩) n (tv th) ∧ Below w.heap.size w w'

set_option maxRecDepth 100000 in
set_option maxHeartbeats 1000000 in
theorem upward_any (n p c : Nat) (A : Option Addr) (M : Nat → Nat → Bool) (w : World) (h : MM w 0 n A M) (hp : p < n) (hn : n ≤ 24) :
    Calls Tryz.prog 96 #[.slice A n c, .int .i64 (p : Int)] w (UpPost M n p w) := by
  have HMM := Lib.hid h
  clear h
  have hb0 := box_below w (.cells #[.int .i64 (-1)] 3)
  have n0 := heap_alloc_new w (.cells #[.int .i64 (-1)] 3)
  have HRP := Lib.hid (repeat_any (-1) w.heap.size n (w.alloc (.cells #[.int .i64 (-1)] 3)) (by rw [cell_of_row _ _ _ _ _ _ n0]; rfl) (row_lt n0) (by omega) hn)
  have HB0 := Lib.hid hb0
  have hz0 : (w.alloc (.cells #[.int .i64 (-1)] 3)).heap.size = w.heap.size + 1 := by simp
  have HZ0 := Lib.hid hz0
  clear hb0 n0 hz0
  obtain ⟨i0, hi1, hz0, hz1, hz2⟩ := info_parts zinfo3
  have HI := Lib.hid hi1
  have HI0 := Lib.hid hz0
  have HI1 := Lib.hid hz1
  have HI2 := Lib.hid hz2
  clear hi1 hz0 hz1 hz2
  have p0 : (0 : Int) ≤ (p : Int) := by omega
  have p1 : (p : Int) < (n : Int) := by omega
  go_enter Tryz.func96, Tryz.ntmps96
  go_wp2_with (go_at_call 124; (with_reducible refine HRP.out.mono ?_); rintro e w1 ⟨H, rfl, hown, hb1⟩; rw [HZ0.out] at hown; have HOWN := Lib.hid hown; have HB1 := Lib.hid (HB0.out.trans (hb1.mono HB0.out.size)); obtain ⟨q1, q2, -, -⟩ := own_put (u := .int .i64 (p : Int)) hown hp; rw [List.getElem?_replicate, if_pos hp] at q1; clear hown hb1)
  obtain ⟨-, -, o2, g2⟩ := own_put (u := .int .i64 (p : Int)) HOWN.out hp
  have hH : w.heap.size + 1 ≤ H := (own_full HOWN.out).2
  have hHl : H < w1.heap.size := row_lt (own_full HOWN.out).1
  rw [← tv_rep, ← tv_set] at o2
  have hw3 := box_below (w1.setCell ⟨H, p, none⟩ (.int .i64 (p : Int))) (.cells #[.int .i64 (p : Int)] 3)
  have hs2 : (w1.setCell ⟨H, p, none⟩ (.int .i64 (p : Int))).heap.size = w1.heap.size := by simp [World.setCell]
  have nq := heap_alloc_new (w1.setCell ⟨H, p, none⟩ (.int .i64 (p : Int))) (.cells #[.int .i64 (p : Int)] 3)
  rw [hs2] at nq
  have HO3 := Lib.hid (own_below o2 hw3)
  have HB3 := Lib.hid ((HB1.out.grown g2 HB1.out.size (fun k e => by cases e; omega)).trans (hw3.mono (by rw [hs2]; exact HB1.out.size)))
  have hq : Qu ((w1.setCell ⟨H, p, none⟩ (.int .i64 (p : Int))).alloc (.cells #[.int .i64 (p : Int)] 3)) (w.heap.size + 1) 3 w1.heap.size 0 1 1 (iv ([p].drop 0)) :=
    ⟨by omega, Nat.le_refl _, rfl, _, nq, Nat.le_refl _, fun j u hj => by
      have hjl := (List.getElem?_eq_some_iff.1 hj).1
      simp [iv] at hjl
      subst hjl
      rw [Nat.zero_add]
      exact hj⟩
  have HQ3 := Lib.hid hq
  have HBF := Lib.hid (Bfs.start (M := M) hp)
  clear q1 q2 o2 g2 hw3 nq hq
  generalize (w1.setCell ⟨H, p, none⟩ (.int .i64 (p : Int))).alloc (.cells #[.int .i64 (p : Int)] 3) = W3 at *
  go_loopw [6] (fun qv wr => ∃ (k m : Nat) (th L : List Nat) (g off cap : Nat), qv = .slice (some ⟨g, off, none⟩) m cap ∧ L.length = k + m ∧ Bfs M n p th L ∧ Shut M n L k ∧ wr.ownsRow (w.heap.size + 1) 3 1 (.slice (some ⟨H, 0, none⟩) n n) n (tv th) ∧ Qu wr (w.heap.size + 1) 3 g off m cap (iv (L.drop k)) ∧ g ≠ H ∧ Below w.heap.size w wr) (fun qv wr => lenOf qv + zw wr H n)
  case atStart => exact ⟨0, 1, _, [p], _, 0, 1, rfl, rfl, HBF.out, fun i hi => absurd hi (by omega), HO3.out, HQ3.out, by omega, HB3.out⟩
  case round =>
    obtain ⟨k, m, th, L, g, off, cap, rfl, hl, hbf, hsh, hown, hq, hne, hbl⟩ := hrel
    by_cases hm : 0 < m
    · obtain ⟨u, hu⟩ : ∃ u, L.getD k 0 = u := ⟨_, rfl⟩
      have hun : u < n := by rw [← hu]; exact hbf.lt k (by omega)
      obtain ⟨S, hSS⟩ : ∃ S, m + zer th n = S := ⟨_, rfl⟩
      have hS : In1 M n p k m 0 u S th L := ⟨hbf, hl, hm, hsh, hu, fun q hq => absurd hq (by omega), hSS⟩
      have HSS := Lib.hid hSS
      clear hSS
      have qc := hq.cell (iv_drop (show k < L.length by omega))
      rw [hu, Nat.add_zero] at qc
      obtain ⟨G, o2, gr, hA, -, hlG, -, hlg, y0', y1⟩ := HMM.out.row u hun
      subst hA
      have y0 := (hbl.cell (p := ⟨G, o2 + u, none⟩) hlG).trans y0'
      have HY1 := Lib.hid y1
      have HS0 := Lib.hid hS
      have HBL := Lib.hid hbl
      have HO := Lib.hid hown
      have HQ := Lib.hid hq
      have HZW := Lib.hid (zw_eq hown)
      have HNE := Lib.hid hne
      have mp : 0 < m := hm
      have u0 : (0 : Int) ≤ (u : Int) := by omega
      have u1 : (u : Int) < (n : Int) := by omega
      clear hl hbf hsh hown hq hbl hu hS y0' y1 hne HBF HO3 HQ3 HB3 HOWN HB1
      go_wp2_with fail
      clear qc y0
      go_loopw [6, 31] (fun qv ii wr => ∃ (q m : Nat) (th L : List Nat) (g off cap : Nat), q ≤ n ∧ ii = .int .i64 (q : Int) ∧ qv = .slice (some ⟨g, off, none⟩) m cap ∧ In1 M n p k m q u S th L ∧ wr.ownsRow (w.heap.size + 1) 3 1 (.slice (some ⟨H, 0, none⟩) n n) n (tv th) ∧ Qu wr (w.heap.size + 1) 3 g off m cap (iv (L.drop k)) ∧ g ≠ H ∧ Below w.heap.size w wr) (fun qv ii wr => n - (intOf ii).toNat)
      case atStart => exact ⟨0, m, th, L, g, off, cap, by omega, rfl, rfl, HS0.out, HO.out, HQ.out, HNE.out, HBL.out⟩
      case round =>
        obtain ⟨q, m', th', L', g', off', cap', hqn, rfl, rfl, hS, hown, hq, hne, hbl⟩ := hrel
        have HBK := Lib.hid hbl
        have HOK := Lib.hid hown
        have HQK := Lib.hid hq
        have HSK := Lib.hid hS
        have HNK := Lib.hid hne
        by_cases hlt : q < n
        · have y1 := (hbl.cell (p := ⟨gr, q, none⟩) hlg).trans (HY1.out q hlt)
          have qc := hq.cell (iv_drop (show k < L'.length by have := hS.len; have := hS.m1; omega))
          rw [hS.hd, Nat.add_zero] at qc
          have hm1 := hS.m1
          obtain ⟨c1, c2, -, -⟩ := own_put (u := .int .i64 (u : Int)) hown hlt
          rw [tv_at _ _ (by rw [hS.b.len]; exact hlt)] at c1
          have q0 : (0 : Int) ≤ (q : Int) := by omega
          have q1 : (q : Int) < (n : Int) := by omega
          have hle := hS.b.le
          have hll := hS.len
          have hm24 : m' ≤ 24 := by omega
          clear hle hll hown hq hS hbl hne
          cases hM : M u q with
          | false =>
            rw [hM] at y1
            have HN := Lib.hid (HSK.out.skip hlt (.inl hM))
            clear hM c1 c2 qc
            go_wp2_with fail
            exact ⟨⟨q + 1, m', th', L', g', off', cap', by omega, by go_num, rfl, HN.out, HOK.out, HQK.out, HNK.out, HBK.out⟩, by simp [intOf]; omega⟩
          | true =>
            rw [hM] at y1
            by_cases hz : th'.getD q 0 = 0
            · rw [hz] at c1
              have c3 : wr.cell? ⟨H, q, none⟩ = some (.int .i64 (-1)) := c1
              have HN := Lib.hid (HSK.out.new hlt hM hz)
              obtain ⟨-, -, o5, g5⟩ := own_put (u := .int .i64 (u : Int)) HOK.out hlt
              rw [← tv_set] at o5
              have hwa := box_below (wr.setCell ⟨H, q, none⟩ (.int .i64 (u : Int))) (.cells #[.int .i64 (q : Int)] 3)
              have HQA := Lib.hid ((HQK.out.keep g5 (fun e => HNK.out (Option.some.inj e).symm)).keep (row := none) (gb_of_below hwa) (by simp))
              have HOA := Lib.hid (own_below o5 hwa)
              have hba := HBK.out.grown g5 HBK.out.size (fun k e => by cases e; omega)
              have hsa : (wr.setCell ⟨H, q, none⟩ (.int .i64 (u : Int))).heap.size = wr.heap.size := by simp [World.setCell]
              have HSA := Lib.hid hsa
              have HBA := Lib.hid (hba.trans (hwa.mono hba.size))
              have HNW := Lib.hid (World.news_of_block (heap_alloc_new (wr.setCell ⟨H, q, none⟩ (.int .i64 (u : Int))) (.cells #[.int .i64 (q : Int)] 3)))
              have HQL := Lib.hid (HQK.out.lt)
              have HBS := Lib.hid HBK.out.size
              have HOL := Lib.hid (row_lt (own_full HOK.out).1)
              clear c1 hz hM o5 g5 hwa hba hsa
              go_wp2_with (at_builtin; refine qu_list rfl (.tmp 50) (.tmp 52) (w.heap.size + 1) 22 3 rfl i0 (.int .i64 0) 8 Tryz.underlying22 HI.out HI0.out HI1.out HI2.out rfl (by decide) rfl HQA.out (by have := HBS.out; simp [World.setCell]; omega) (by omega) ⟨wr.heap.size, 0, none⟩ 1 (.int .i64 (q : Int)) rfl (by have := HNW.out; rw [HSA.out] at this; exact this) rfl ?_; intro g6 off6 cap6 w6 hq6 hg6 hd6; have HQ6 := Lib.hid hq6; have HG6 := Lib.hid hg6; have HD6 := Lib.hid hd6; clear hq6 hg6 hd6)
              have hne6 : g6 ≠ H := by
                rcases HD6.out with e | e
                · rw [e]; exact HNK.out
                · have := HOL.out
                  simp [World.setCell] at e
                  omega
              refine ⟨⟨q + 1, m' + 1, _, L' ++ [q], g6, off6, cap6, by omega, by go_num, rfl, HN.out, ?_, ?_, hne6, ?_⟩, by simp [intOf]; omega⟩
              · exact kept_ne HOA.out HG6.out (fun j e1 e2 => by
                  have e3 : some H = some j := e2
                  cases e1
                  exact HNK.out (Option.some.inj e3).symm)
              · rw [iv_drop_snoc (by have := HSK.out.len; omega)]
                exact HQ6.out
              · exact HBA.out.grown HG6.out HBA.out.size (fun j e => by cases e; have := HQK.out.base; omega)
            · have HN := Lib.hid (HSK.out.skip hlt (.inr (Nat.pos_of_ne_zero hz)))
              generalize th'.getD q 0 = t at *
              have e1 : (((t : Int) - 1) == -1) = false := beq_eq_false_iff_ne.2 (by omega)
              clear hM hz
              go_wp2_with fail
              exact ⟨⟨q + 1, m', th', L', g', off', cap', by omega, by go_num, rfl, HN.out, HOK.out, HQK.out, HNK.out, HBK.out⟩, by simp [intOf]; omega⟩
        · obtain rfl : n = q := by omega
          have hm1 := hS.m1
          have HT := Lib.hid (hq.tail (by omega))
          have hqle := hq.le
          clear hS hown hq hne hbl HQ HO HS0 HBL
          by_cases hc : cap' = 1
          · rw [if_pos hc] at HT
            subst hc
            obtain rfl : m' = 1 := by omega
            go_wp2_with fail
            have hs := HSK.out
            refine ⟨⟨k + 1, 0, th', L', g', off', 0, rfl, by have := hs.len; omega, hs.b, hs.shut, HOK.out, ?_, HNK.out, HBK.out⟩, ?_⟩
            · have := HT.out
              rwa [iv_drop_one] at this
            · rw [zw_eq HOK.out, HZW.out]
              have h1 := hs.sum
              have h2 := HSS.out
              show 0 + zer th' n < m + zer th n
              omega
          · rw [if_neg hc] at HT
            go_wp2_with fail
            have hs := HSK.out
            refine ⟨⟨k + 1, m' - 1, th', L', g', off' + 1, cap' - 1, rfl, by have := hs.len; omega, hs.b, hs.shut, HOK.out, ?_, HNK.out, HBK.out⟩, ?_⟩
            · have := HT.out
              rwa [iv_drop_one] at this
            · rw [zw_eq HOK.out, HZW.out]
              have h1 := hs.sum
              have h2 := HSS.out
              show m' - 1 + zer th' n < m + zer th n
              omega
    · obtain rfl : m = 0 := by omega
      go_wp2_with fail
      go_ret
      have e : k = L.length := by omega
      exact ⟨H, th, L, rfl, hbf, e ▸ hsh, (row_of_own hown).base (Nat.le_succ _), hbl⟩

end Go.Proofs.YtgknfkmojhganaaGreat.Di
