import Derived.Test.YtahggnlmabdbbaaDoorRtC
import Derived.Maps.RangeWalk
import Derived.Maps.OwnSet
import Derived.Maps.Views
import Derived.Lib.SliceRun
namespace Go.Proofs.YtahggnlmabdbbaaDoor.Di
open Go.RowKit Go.Maps
open Go.Proofs.YtahggnlmabdbbaaDoor.Tp
set_option linter.unusedVariables false

/-- Do the rights hold, and have they the credential? -/
def exP (x : Rt) (c : Int) : Prop := Rok x ∧ 0 ≤ c ∧ c < x.c
def szs (x : Rt) : Prop := x.g.length ≤ 1099511627776 ∧ x.s.length ≤ 1099511627776 ∧ x.m.length ≤ 1099511627776
set_option maxRecDepth 100000 in
set_option maxHeartbeats 400000 in
theorem ex_yes (x : Rt) (v : Vr) (c : Int) (w : World) (h : RL w 0 x v) (hs : szs x) (he : exP x c) :
    Calls Tryd.prog 41 #[.agg (gr x v), .int .i64 c] w fun e w' => e = .returned (.bool true) ∧ Below w.heap.size w w' := by
  have HB0 := Lib.hid (box_below w (.cells (gr x v) 27))
  have HR0 := Lib.hid (heap_alloc_new w (.cells (gr x v) 27))
  obtain ⟨c0, c1, c2, c3, c4⟩ := grCells HR0.out
  have hck := check_any x v _ (h.below HB0.out) hs
  rw [ck_ok he.1] at hck
  have HCK := Lib.hid hck
  have HNU := Lib.hid (fun w => num_yes he.2.1 he.2.2 w)
  have HF := Lib.hid (show (#[.int .i64 x.c, .int .i64 x.k, .slice v.A1 x.g.length v.c1, .slice v.A2 x.s.length v.c2, .slice v.A3 x.m.length v.c3] : Array Value) = gr x v from rfl)
  clear hck h he
  go_enter Tryd.func41, Tryd.ntmps41
  go_wp2_with (first
    | (go_at_call 24; rw [HF.out]; refine HCK.out.mono ?_; rintro e w1 ⟨rfl, hb1⟩; have HB1 := Lib.hid (HB0.out.trans (hb1.mono HB0.out.size)); have M1 := Lib.hid ((hb1.block _ (row_lt HR0.out)).trans HR0.out); clear hb1 c0 c1 c2 c3 c4; obtain ⟨c0, c1, c2, c3, c4⟩ := grCells M1.out)
    | (go_at_call 34; (with_reducible refine (HNU.out _).mono ?_); rintro e wq ⟨rfl, rfl⟩))
  go_ret
  exact ⟨by first | rfl | simp, HB1.out⟩
set_option maxRecDepth 100000 in
set_option maxHeartbeats 400000 in
theorem ex_no (x : Rt) (v : Vr) (c : Int) (w : World) (h : RL w 0 x v) (hs : szs x) (he : ¬ exP x c) :
    Calls Tryd.prog 41 #[.agg (gr x v), .int .i64 c] w fun e w' => e = .returned (.bool false) ∧ Below w.heap.size w w' := by
  have HB0 := Lib.hid (box_below w (.cells (gr x v) 27))
  have HR0 := Lib.hid (heap_alloc_new w (.cells (gr x v) 27))
  obtain ⟨c0, c1, c2, c3, c4⟩ := grCells HR0.out
  have hck := check_any x v _ (h.below HB0.out) hs
  have HF := Lib.hid (show (#[.int .i64 x.c, .int .i64 x.k, .slice v.A1 x.g.length v.c1, .slice v.A2 x.s.length v.c2, .slice v.A3 x.m.length v.c3] : Array Value) = gr x v from rfl)
  by_cases ho : Rok x
  · rw [ck_ok ho] at hck
    have HCK := Lib.hid hck
    have HNU := Lib.hid (fun w => num_no (n := c) (s := x.c) (fun hp => he ⟨ho, hp⟩) w)
    clear hck h he ho
    go_enter Tryd.func41, Tryd.ntmps41
    go_wp2_with (first
      | (go_at_call 24; rw [HF.out]; refine HCK.out.mono ?_; rintro e w1 ⟨rfl, hb1⟩; have HB1 := Lib.hid (HB0.out.trans (hb1.mono HB0.out.size)); have M1 := Lib.hid ((hb1.block _ (row_lt HR0.out)).trans HR0.out); clear hb1 c0 c1 c2 c3 c4; obtain ⟨c0, c1, c2, c3, c4⟩ := grCells M1.out)
      | (go_at_call 34; (with_reducible refine (HNU.out _).mono ?_); rintro e wq ⟨rfl, rfl⟩))
    go_ret
    exact ⟨by first | rfl | simp, HB1.out⟩
  · rw [ck_no ho] at hck
    have HCK := Lib.hid hck
    clear hck h he ho
    go_enter Tryd.func41, Tryd.ntmps41
    go_wp2_with (go_at_call 24; rw [HF.out]; refine HCK.out.mono ?_; rintro e w1 ⟨rfl, hb1⟩; have HB1 := Lib.hid (HB0.out.trans (hb1.mono HB0.out.size)); clear hb1 c0 c1 c2 c3 c4)
    go_ret
    exact ⟨by first | rfl | simp, HB1.out⟩

theorem own_new0 (w : World) (B e s : Nat) (h : B ≤ w.heap.size) : (w.alloc (.cells #[] e)).ownsRow B e s (.slice (some ⟨w.heap.size, 0, none⟩) 0 0) 0 [] :=
  ⟨by simp, .inr ⟨w.heap.size, 0, #[], rfl, h, heap_alloc_new _ _, Nat.le_refl _, Nat.zero_le _, by simp, by simp⟩⟩
theorem Row.news {w : World} {B s n : Nat} {A : Option Addr} {xs : List Value} (h : Row w B s A n xs) (hn : 0 < n) : ∃ ad, A = some ad ∧ ∀ j u, xs[j]? = some u → w.cell? (ad.add j) = some u := by
  obtain ⟨b, off, e, hB, hlt, hc⟩ := h.mem hn
  refine ⟨⟨b, off, none⟩, e, fun j u hj => ?_⟩
  rw [Addr.add_lit]
  exact hc j u hj
def ClnPost (l : List T4) (w : World) (e : Ending) (w' : World) : Prop := ∃ A cc, e = .returned (.slice A l.length cc) ∧ w'.ownsRow w.heap.size 99 4 (.slice A l.length cc) l.length (v4 l) ∧ Below w.heap.size w w'
set_option maxRecDepth 100000 in
set_option maxHeartbeats 400000 in
theorem clone_any (l : List T4) (A : Option Addr) (cc B : Nat) (w : World) (h : w.ownsRow B 99 4 (.slice A l.length cc) l.length (v4 l)) (hm : l.length ≤ 1000) :
    Calls Tryd.prog 59 #[.slice A l.length cc] w (ClnPost l w) := by
  have q22 : ∀ (w : World) (a : Option Addr) (n c n' c' : Nat), (binOp .eql 92 (.slice a n c) (.slice none n' c')).run Tryd.prog w = .ok (.bool a.isNone) w := fun w a n c n' c' => Lib.run_eql_slice_nil w _ _ a n c n' c' Tryd.underlying92
  unfold ClnPost
  cases A with
  | none =>
    have hl : l.length = 0 := by
      rcases h.2 with ⟨e, h0⟩ | ⟨g, cap, cur, e, _⟩
      · exact h0
      · cases e
    have HL := Lib.hid hl
    rw [hl]
    rw [List.length_eq_zero_iff.1 hl]
    clear h hl
    go_enter Tryd.func59, Tryd.ntmps59
    go_wp2_with fail
    go_ret
    exact ⟨none, 0, rfl, own_nil _ _ _ _, Below.refl _ _⟩
  | some ad =>
    obtain ⟨g, hg⟩ : ∃ g, ad = ⟨g, 0, none⟩ := by
      rcases h.2 with ⟨e, h0⟩ | ⟨g, cap, cur, e, _⟩
      · cases e
      · cases e; exact ⟨g, rfl⟩
    have hb := box_below w (.cells #[] 99)
    have hnews : ∀ j u, (v4 l)[j]? = some u → (w.alloc (.cells #[] 99)).cell? (ad.add j) = some u := fun j u hj => by
      have hll := (List.getElem?_eq_some_iff.1 hj).1
      rw [v4_len] at hll
      obtain ⟨ad', e, hc⟩ := ((row_of_own h).below hb).news (by omega)
      cases e
      exact hc j u hj
    have HNW := Lib.hid hnews
    have HB := Lib.hid hb
    have HO := Lib.hid (own_new0 w w.heap.size 99 4 (Nat.le_refl _))
    obtain ⟨i0, hi1, hz0, hz1, hz2⟩ := info_parts zinfoL
    have HI := Lib.hid hi1
    have HI0 := Lib.hid hz0
    have HI1 := Lib.hid hz1
    have HI2 := Lib.hid hz2
    have HIL := Lib.hid (v4_len l)
    have HI1' := Lib.hid (v4_one l)
    clear hi1 hz0 hz1 hz2 h hb hnews
    go_enter Tryd.func59, Tryd.ntmps59
    go_wp2_with (at_builtin; refine wpList_append_own _ rfl (.tmp 5) (.tmp 6) 92 rfl w.heap.size 99 i0 (.agg #[.int .i64 0, .int .i64 0, .int .i64 0, .int .i64 0]) 4 32 Tryd.underlying92 HI.out HI0.out HI1.out HI2.out rfl (by decide) _ 0 [] rfl HO.out ad l.length cc (v4 l) rfl HIL.out HNW.out HI1'.out (by unfold maxLen; omega) (by omega) (by simp) ?_; intro v' w6 hown hgr _; have O6 := Lib.hid hown; have B6 := Lib.hid (HB.out.grown hgr HB.out.size (fun g e => by cases e; exact Nat.le_refl _)); clear hown hgr)
    go_ret
    have ho := O6.out
    rw [Nat.zero_add, List.nil_append] at ho
    obtain ⟨A, c2, rfl⟩ := own_form ho
    exact ⟨A, c2, by first | rfl | simp, ho, B6.out⟩

end Go.Proofs.YtahggnlmabdbbaaDoor.Di
