import Derived.Test.YtgaliinjjonlmaaLgBel
import Derived.Deep.RegionLawGrows
import Derived.ArgAppend
import Derived.Deep.AppendLies
import Derived.Deep.RegionHeld3
namespace Go.Proofs.Ytgaliinjjonlmaa.Lg
open Go.RowKit
set_option linter.unusedVariables false

theorem zinfo57 : (Try.prog.info? 57).map (fun i => (i.zero, i.size, i.bytes)) = some (some (.agg #[.int .i64 0, .int .i64 0, .int .i64 0, .int .i64 0]), 4, 32) := by kernel_rfl

theorem zinfo3 : (Try.prog.info? 3).map (fun i => (i.zero, i.size, i.bytes)) = some (some (.int .i64 0), 1, 8) := by kernel_rfl

theorem info_parts {P : Program} {t : TypeId} {z : Value} {s b : Nat} (h : (P.info? t).map (fun i => (i.zero, i.size, i.bytes)) = some (some z, s, b)) : ∃ i, P.info? t = some i ∧ i.zero = some z ∧ i.size = s ∧ i.bytes = b := by
  cases hi : P.info? t with
  | none => rw [hi] at h; cases h
  | some i =>
    rw [hi] at h
    simp at h
    exact ⟨i, rfl, h.1, h.2.1, h.2.2⟩

/-- The cells of records, one behind the other. -/
def recs : List R → List Value
  | [] => []
  | r :: l => (recC r).toList ++ recs l

theorem recs_len : ∀ l, (recs l).length = l.length * 4
  | [] => rfl
  | r :: l => by
    have := recs_len l
    simp [recs, recC, this]
    omega

theorem recs_snoc : ∀ (l : List R) (r : R), recs (l ++ [r]) = recs l ++ (recC r).toList
  | [], r => by simp [recs]
  | x :: l, r => by simp [recs, recs_snoc l r, List.append_assoc]

theorem recs_at : ∀ (l : List R) (j i : Nat), j < l.length → i < 4 → (recs l)[j * 4 + i]? = (recC (l.getD j r0)).toList[i]?
  | [], _, _, h, _ => absurd h (by simp)
  | r :: l, 0, i, _, hi => by
    simp only [recs]
    rw [List.getElem?_append_left (by simp [recC]; omega)]
    simp
  | r :: l, j + 1, i, h, hi => by
    have ih := recs_at l j i (by simpa using h) hi
    simp only [recs]
    rw [List.getElem?_append_right (by simp [recC]; omega)]
    have e : (j + 1) * 4 + i - (recC r).toList.length = j * 4 + i := by simp [recC]; omega
    rw [e, ih]
    simp

theorem recs_one (l : List R) : ∀ u ∈ recs l, u.oneCell' = true := by
  induction l with
  | nil => intro u hu; simp [recs] at hu
  | cons r l ih =>
    intro u hu
    rcases List.mem_append.1 hu with h | h
    · simp [recC] at h
      rcases h with rfl | rfl | rfl | rfl <;> rfl
    · exact ih u h

/-- A row that is owned, as it lies. -/
theorem own_lies {w : World} {base n : Nat} {v : Value} {l : List R} (h : w.ownsRow base 57 4 v n (recs l)) (hl : l.length = n) : ∃ A c, v = .slice A n c ∧ Lies w A n l ∧ (A = none → n = 0 ∧ c = 0) ∧ n ≤ c ∧ c ≤ maxLen ∧ (∀ a, A = some a → base ≤ a.block ∧ a.spot = none) := by
  rcases h.2 with ⟨rfl, rfl⟩ | ⟨g, cap, cur, rfl, hb, hh, hnc, hcm, _⟩
  · exact ⟨none, 0, rfl, ⟨hl, fun h => absurd h (by omega)⟩, fun _ => ⟨rfl, rfl⟩, by omega, by unfold maxLen; omega, fun a e => by cases e⟩
  · refine ⟨_, _, rfl, ⟨hl, fun h0 => ⟨g, 0, rfl, row_lt hh, fun j hj => ?_⟩⟩, (fun e => by cases e), hnc, hcm, fun a e => by cases e; exact ⟨hb, rfl⟩⟩
    have key : ∀ i, i < 4 → w.cell? ⟨g, 0 + j * 4 + i, none⟩ = (recC (l.getD j r0)).toList[i]? := fun i hi => by
      rw [Nat.zero_add, h.cellAt (j * 4 + i) (by omega), recs_at l j i (by omega) hi]
    exact ⟨key 0 (by omega), key 1 (by omega), key 2 (by omega), key 3 (by omega)⟩

theorem lies_cells {w : World} {a : Addr} {n : Nat} {l : List R} (h : Lies w (some a) n l) (hs : a.spot = none) : ∀ j u, (recs l)[j]? = some u → w.cell? (a.add j) = some u := by
  intro j u hj
  have hlt : j < n * 4 := by
    have := (List.getElem?_eq_some_iff.1 hj).1
    rw [recs_len, h.len] at this
    exact this
  obtain ⟨b, off, e, _, hc⟩ := h.mem (by omega)
  cases e
  obtain ⟨c0, c1, c2, c3⟩ := hc (j / 4) (by omega)
  have hr := recs_at l (j / 4) (j % 4) (by have := h.len; omega) (by omega)
  have ej : j / 4 * 4 + j % 4 = j := by omega
  rw [ej, hj] at hr
  have ea : (⟨b, off, none⟩ : Addr).add j = ⟨b, off + j / 4 * 4 + j % 4, none⟩ := by
    unfold Addr.add
    split <;> simp_all
    omega
  rw [ea, hr]
  rcases (by omega : j % 4 = 0 ∨ j % 4 = 1 ∨ j % 4 = 2 ∨ j % 4 = 3) with h | h | h | h <;> rw [h]
  · exact c0
  · exact c1
  · exact c2
  · exact c3

theorem Lies.noAddr {w : World} {A B : Option Addr} {l : List R} (h : Lies w A 0 l) : Lies w B 0 l := ⟨h.len, fun h => absurd h (by omega)⟩

theorem keepR {w1 : World} {g : Nat} {x1 x2 x3 x4 : Value} (hlt : g < w1.heap.size) (c0 : w1.cell? ⟨g, 0, none⟩ = some x1) (c1 : w1.cell? ⟨g, 1, none⟩ = some x2) (c2 : w1.cell? ⟨g, 2, none⟩ = some x3) (c3 : w1.cell? ⟨g, 3, none⟩ = some x4) (w' : World) (hb : Below w1.heap.size w1 w') :
    w'.cell? ⟨g, 0, none⟩ = some x1 ∧ w'.cell? ⟨g, 1, none⟩ = some x2 ∧ w'.cell? ⟨g, 2, none⟩ = some x3 ∧ w'.cell? ⟨g, 3, none⟩ = some x4 ∧ Below w1.heap.size w1 w' :=
  ⟨(hb.cell (p := ⟨g, _, none⟩) hlt).trans c0, (hb.cell (p := ⟨g, _, none⟩) hlt).trans c1, (hb.cell (p := ⟨g, _, none⟩) hlt).trans c2, (hb.cell (p := ⟨g, _, none⟩) hlt).trans c3, hb⟩

/-- An append of one record behind a slice without spare room, as one step of a drawn region. -/
theorem app57 {ops : Array Oper} {o : Oper} {a : Act} {w : World} {K : Act → World → Prop} {Q : Exit → Act → World → Prop} {E : Prop} (hgd : o.guard = none) (s x : Operand)
    (ho : o.op = .call { callee := .builtin .append, args := #[s, x], argTypes := #[55, 55] }) (A : Option Addr) (n : Nat) (l : List R) (hs : a.eval s = .slice A n n) (hA : A = none → n = 0) (hl : l.length = n)
    (holds : ∀ b, A = some b → ∀ j u, (recs l)[j]? = some u → w.cell? (b.add j) = some u) (g : Nat) (r : R) (hx : a.eval x = .slice (some ⟨g, 0, none⟩) 1 1) (hg : w.heap[g]? = some (.cells (recC r) 57 (0, 0))) (hn : n ≤ 1000)
    (h : ∀ A' c' w', Lies w' A' (n + 1) (l ++ [r]) → (∀ a, A' = some a → w.heap.size ≤ a.block ∧ a.spot = none) → n + 1 ≤ c' → c' ≤ maxLen → w.grownBy w' none → K (a.put o.dst (.slice A' (n + 1) c')) w') :
    if Region.wanted o (yielded ops a.tmps) = true then Oper.wp Try.prog o a w K Q else E := by
  obtain ⟨i0, hi, hz0, hz1, hz2⟩ := info_parts zinfo57
  refine step_append_grows hgd s x 55 ho 57 i0 _ 4 32 Try.underlying55 hi hz0 hz1 hz2 rfl (by decide) A n n (recs l) hs (fun e => ⟨hA e, hA e⟩) (by rw [recs_len, hl]) holds ⟨g, 0, none⟩ 1 1 (recC r).toList hx rfl ?_ ?_ (by omega) (by unfold maxLen; omega) (by omega) ?_
  · exact World.news_of_block hg
  · intro u hu
    exact recs_one [r] u (by simpa [recs] using hu)
  · intro v' w' hown hgr
    rw [← recs_snoc] at hown
    obtain ⟨A', c', rfl, hl', hA', h1, h2, h3⟩ := own_lies hown (by simp [hl])
    exact h A' c' w' hl' h3 h1 h2 hgr

set_option maxRecDepth 100000 in
set_option maxHeartbeats 1000000 in
theorem append_any (A : Option Addr) (n c : Nat) (l : List R) (r : R) (w : World) (h : Lies w A n l) (hA : A = none → n = 0 ∧ c = 0) (hsp : ∀ a, A = some a → a.spot = none) (hnc : n ≤ c) (hcm : c ≤ maxLen) (hok : Ok l) (hok2 : Ok (l ++ [r])) :
    Calls Try.prog 48 #[.slice A n c, .agg (recC r)] w fun e w' => ∃ A' c', e = .returned (.tuple #[.slice A' (n + 1) c', .int .i64 0]) ∧ Lies w' A' (n + 1) (l ++ [r]) ∧ (∀ a, A' = some a → w.heap.size ≤ a.block ∧ a.spot = none) ∧ n + 1 ≤ c' ∧ c' ≤ maxLen ∧ Below w.heap.size w w' := by
  have hlen := h.len
  have hn : n < 100 := by have := hok2.few; simp at this; omega
  have k1 := fun w' (hw : Below w.heap.size w w') => check_any A n c l w' (h.below hw) hok
  have K1 := Lib.hid k1
  have HL := Lib.hid (fun w' (hw : Below w.heap.size w w') => h.below hw)
  have HR := Lib.hid (heap_alloc_new w (.cells (recC r) 57))
  have HBX := Lib.hid (box_below w (.cells (recC r) 57))
  have HOK2 := Lib.hid hok2
  have HA := Lib.hid hA
  have HSP := Lib.hid hsp
  have HN := Lib.hid hlen
  unfold maxLen at hcm
  have hne : ((n : Int) == 100) = false := beq_eq_false_iff_ne.2 (by omega)
  clear h k1 hok hok2 hA hsp hlen
  obtain ⟨i0, hi, hz0, hz1, hz2⟩ := info_parts zinfo57
  have HI := Lib.hid hi
  have HI0 := Lib.hid hz0
  have HI1 := Lib.hid hz1
  have HI2 := Lib.hid hz2
  clear hi hz0 hz1 hz2
  go_enter Try.func48, Try.ntmps48
  go_wp2_with (first
    | (go_at_call 36; refine (K1.out _ HBX.out).mono ?_; rintro e w1 ⟨rfl, hb1⟩; have HR1 := Lib.hid ((hb1.block w.heap.size (by simp)).trans HR.out); have HB1 := Lib.hid (HBX.out.trans (hb1.mono HBX.out.size)); clear hb1))
  have hHB1 : w.heap.size < w1.heap.size := row_lt HR1.out
  have hbr : Below w1.heap.size w1 w1 := Below.refl _ _
  have hbd : Below w1.heap.size w1 w1.drew := hbr.drew
  obtain ⟨c0, c1, c2, c3⟩ := recCells w1 r _ _ HR1.out
  have HKP := Lib.hid (keepR hHB1 c0 c1 c2 c3)
  have g0 : (0 : Int) ≤ (n : Int) := by omega
  have g1 : (n : Int) ≤ (c : Int) := by omega
  have hold : ∀ w', Below w1.heap.size w1 w' → ∀ a, A = some a → ∀ j u, (recs l)[j]? = some u → w'.cell? (a.add j) = some u := by
    intro w' hw a e
    subst e
    exact lies_cells ((HL.out _ HB1.out).below hw) (HSP.out _ rfl)
  have HOLD := Lib.hid hold
  clear HL K1 HBX HR hold
  rcases A with _ | ⟨b, off, spot⟩
  · obtain ⟨rfl, rfl⟩ := HA.out rfl
    obtain rfl : l = [] := List.eq_nil_of_length_eq_zero HN.out
    go_region_held3 (fun w' => w'.cell? ⟨w.heap.size, 0, none⟩ = some (.int .i64 (r.k : Int)) ∧ w'.cell? ⟨w.heap.size, 1, none⟩ = some (.int .i64 (r.s : Int)) ∧ w'.cell? ⟨w.heap.size, 2, none⟩ = some (.int .i64 (r.u : Int)) ∧ w'.cell? ⟨w.heap.size, 3, none⟩ = some (.int .i64 r.v) ∧ Below w1.heap.size w1 w')
      (first | exact HKP.out _ hbr | exact HKP.out _ hbd | exact HKP.out _ (box_below _ _).drew | exact HKP.out _ (box_below _ _) | exact HKP.out _ (((box_below _ _).drew).grown hgr (by simp) (by simp)) | assumption)
      (first
        | ((refine app57 (by rfl) (.tmp 22) (.tmp 24) (by rfl) none 0 [] (by rfl) ?_ HN.out ?_ _ r (by rfl) ?_ (by omega) ?_); (go_loud (first | (intro _; rfl) | (intro e; cases e))); (exact HOLD.out _ (box_below _ _).drew); (exact heap_alloc_new w1 _); (intro A2 c2 w5 hl5 hA5 hc5 hm5 hgr; have HL5 := Lib.hid hl5; have HA5 := Lib.hid hA5; have HC5 := Lib.hid hc5; have HM5 := Lib.hid hm5; clear hl5 hA5 hc5 hm5)))
    have hb5 : Below w1.heap.size w1 w5 := ((box_below w1 (.cells (recC r) 57)).drew).grown hgr (by simp) (by simp)
    have HB5 := Lib.hid (HB1.out.trans (hb5.mono HB1.out.size))
    have hck := check_any A2 (0 + 1) c2 ([] ++ [r]) w5 HL5.out HOK2.out
    have HCK := Lib.hid hck
    clear hck hb5 hgr c0 c1 c3
    go_wp2_with (first
      | (go_at_call 36; refine HCK.out.mono ?_; rintro e w6 ⟨rfl, hb6⟩; have HB6 := Lib.hid hb6; clear hb6))
    go_ret2
    refine ⟨A2, c2, rfl, HL5.out.below HB6.out, fun a e => ⟨?_, (HA5.out a e).2⟩, HC5.out, HM5.out, HB5.out.trans (HB6.out.mono HB5.out.size)⟩
    have h1 := (HA5.out a e).1
    simp at h1
    omega
  · obtain rfl : spot = none := HSP.out _ rfl
    go_region_held3 (fun w' => w'.cell? ⟨w.heap.size, 0, none⟩ = some (.int .i64 (r.k : Int)) ∧ w'.cell? ⟨w.heap.size, 1, none⟩ = some (.int .i64 (r.s : Int)) ∧ w'.cell? ⟨w.heap.size, 2, none⟩ = some (.int .i64 (r.u : Int)) ∧ w'.cell? ⟨w.heap.size, 3, none⟩ = some (.int .i64 r.v) ∧ Below w1.heap.size w1 w')
      (first | exact HKP.out _ hbr | exact HKP.out _ hbd | exact HKP.out _ (box_below _ _).drew | exact HKP.out _ (box_below _ _) | exact HKP.out _ (((box_below _ _).drew).grown hgr (by simp) (by simp)) | assumption)
      (first
        | ((refine app57 (by rfl) (.tmp 22) (.tmp 24) (by rfl) (some ⟨b, off, none⟩) n l (by rfl) ?_ HN.out ?_ _ r (by rfl) ?_ (by omega) ?_); (go_loud (first | (intro _; rfl) | (intro e; cases e))); (exact HOLD.out _ (box_below _ _).drew); (exact heap_alloc_new w1 _); (intro A2 c2 w5 hl5 hA5 hc5 hm5 hgr; have HL5 := Lib.hid hl5; have HA5 := Lib.hid hA5; have HC5 := Lib.hid hc5; have HM5 := Lib.hid hm5; clear hl5 hA5 hc5 hm5)))
    have hb5 : Below w1.heap.size w1 w5 := ((box_below w1 (.cells (recC r) 57)).drew).grown hgr (by simp) (by simp)
    have HB5 := Lib.hid (HB1.out.trans (hb5.mono HB1.out.size))
    have hck := check_any A2 (n + 1) c2 (l ++ [r]) w5 HL5.out HOK2.out
    have HCK := Lib.hid hck
    clear hck hb5 hgr c0 c1 c3
    go_wp2_with (first
      | (go_at_call 36; refine HCK.out.mono ?_; rintro e w6 ⟨rfl, hb6⟩; have HB6 := Lib.hid hb6; clear hb6))
    go_ret2
    refine ⟨A2, c2, rfl, HL5.out.below HB6.out, fun a e => ⟨?_, (HA5.out a e).2⟩, HC5.out, HM5.out, HB5.out.trans (HB6.out.mono HB5.out.size)⟩
    have h1 := (HA5.out a e).1
    simp at h1
    omega

end Go.Proofs.Ytgaliinjjonlmaa.Lg
