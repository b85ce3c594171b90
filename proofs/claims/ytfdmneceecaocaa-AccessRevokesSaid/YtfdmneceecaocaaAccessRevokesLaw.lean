/-
  The Go function leakresponse/leakresponselaw27.AccessRevokes returns true for every list of numbers, and leaves what was there as it was; no conditions. A place that is closed, and of which all is revoked, is granted to nobody and open to nobody from then on.
-/
import Derived.Test.YtfdmneceecaocaaAcI
import Derived.Test.YtfdmneceecaocaaAcJ
import Derived.Test.YtfdmneceecaocaaDjF
import Derived.Test.YtfdmneceecaocaaRows
import Derived.Test.YtfdmneceecaocaaAcK
import Derived.WalkKit
import Derived.ProofKit
import Derived.OpenShut
import Derived.ShutString
import Derived.ChangeOld
import Derived.Below
import Derived.StillTailTactics
import Derived.Deep.CutBlock
namespace Go.Proofs.Ytfdmneceecaocaa.accessRevokes
open Go.ChangeShapes Go.WideShapes Go.ChangeAt Go.RowKit
open Go.ChangeMaps (open_string shut_string)
open Go.Proofs.Ytfdmneceecaocaa.Tp
open Go.Proofs.Ytfdmneceecaocaa.Di
set_option linter.unusedVariables false

theorem Eok.last {a : Es} (h : MkE a) : ∃ lt : Nat, lastA a.e = (lt : Int) ∧ lt ≤ 1000 ∧ ∀ j, j < a.e.length → (ag a.e j).t ≤ (lt : Int) := by
  have key : 0 ≤ lastA a.e ∧ lastA a.e ≤ 1000 := by
    unfold lastA
    by_cases e : a.e.length = 0
    · rw [if_pos e]; omega
    · rw [if_neg e]
      exact ⟨(h.ok.e _ (by omega)).1, h.t _ (by omega)⟩
  refine ⟨(lastA a.e).toNat, by omega, by omega, fun j hj => ?_⟩
  have := h.ok.le_last hj
  omega
/-- While the grants are revoked: the first k of F are. -/
structure RRel (a : Es) (p lt : Int) (F : List Nat) (k : Nat) (L : List Ac) : Prop where
  len : L.length = a.e.length + k
  ok : Eok ⟨a.n, L⟩
  tm : ∀ j, j < L.length → (ag L j).t ≤ lt
  gr : ∀ r : Nat, (grA L p lt (r : Int)).isSome = true → (grA a.e p lt (r : Int)).isSome = true ∧ r ∉ F.take k
theorem RRel.start {a : Es} (h : Eok a) {p lt : Int} (F : List Nat) (ht : ∀ j, j < a.e.length → (ag a.e j).t ≤ lt) : RRel a p lt F 0 a.e :=
  ⟨rfl, h, ht, fun r hr => ⟨hr, by simp⟩⟩
theorem RRel.step {a : Es} {p lt : Int} {F : List Nat} {k : Nat} {L : List Ac} (h : RRel a p lt F k L) (hp : 0 ≤ p ∧ p < a.n) (hl : 0 ≤ lt ∧ lt ≤ 1000) (hF : F.getD k 0 < 24) (hk : k < F.length) (hm : a.e.length + k < 100) :
    RRel a p lt F (k + 1) (L ++ [⟨lt, 2, p, ((F.getD k 0 : Nat) : Int), 0, 0, 0⟩]) := by
  refine ⟨by have := h.len; simp; omega, h.ok.add (by have := h.len; omega) ⟨hl.1, by show lt ≤ _; omega, hp.1, hp.2, .inl ⟨.inr rfl, by show (0 : Int) ≤ ((F.getD k 0 : Nat) : Int); omega, by show ((F.getD k 0 : Nat) : Int) < 24; omega, rfl, rfl, rfl⟩⟩ (fun j hj => h.tm j hj), fun j hj => ?_, fun r hr => ?_⟩
  · simp at hj
    by_cases e : j = L.length
    · rw [e, ag_end]; exact Int.le_refl _
    · rw [ag_left (by omega)]; exact h.tm j (by omega)
  · rw [grA_snoc] at hr
    rw [if_neg (show ¬ (lt < lt ∨ p ≠ p) by omega), if_neg (show ¬ ((2 : Int) = 1) by decide), if_pos (show (2 : Int) = 2 from rfl)] at hr
    have hr : (if ((F.getD k 0 : Nat) : Int) = (r : Int) then none else grA L p lt (r : Int)).isSome = true := hr
    by_cases e : ((F.getD k 0 : Nat) : Int) = (r : Int)
    · rw [if_pos e] at hr; cases hr
    · rw [if_neg e] at hr
      obtain ⟨h1, h2⟩ := h.gr r hr
      refine ⟨h1, ?_⟩
      rw [List.take_succ_eq_append_getElem hk, List.mem_append, List.mem_singleton]
      rintro (h3 | h3)
      · exact h2 h3
      · refine e ?_
        rw [List.getD_eq_getElem?_getD, List.getElem?_eq_getElem hk, h3]
        rfl
/-- All is revoked, and the place is closed. -/
theorem RRel.fin {a : Es} {p lt : Int} {k : Nat} {L : List Ac} (h : RRel a p lt (idx (gdB a p lt) 24) k L) (hok : Eok a) (hp : 0 ≤ p ∧ p < a.n) (hl : 0 ≤ lt ∧ lt ≤ 1000) (hk : cnt (gdB a p lt) 24 ≤ k) (hm : a.e.length + k < 100) :
    Eok ⟨a.n, L ++ [⟨lt, 4, p, 0, 0, 0, 0⟩]⟩ ∧ ∀ t, lt ≤ t → lkA (L ++ [⟨lt, 4, p, 0, 0, 0, 0⟩]) p t = none ∧ ∀ r, gdB ⟨a.n, L ++ [⟨lt, 4, p, 0, 0, 0, 0⟩]⟩ p t r = false := by
  have hok2 : Eok ⟨a.n, L ++ [⟨lt, 4, p, 0, 0, 0, 0⟩]⟩ := h.ok.add (by have := h.len; omega) ⟨hl.1, by show lt ≤ _; omega, hp.1, hp.2, .inr (.inr (.inl ⟨rfl, rfl, rfl, rfl, rfl⟩))⟩ (fun j hj => h.tm j hj)
  refine ⟨hok2, fun t ht => ⟨?_, fun r => ?_⟩⟩
  · rw [lkA_snoc, if_neg, if_pos rfl]
    show ¬ (t < lt ∨ p ≠ p)
    omega
  · rw [gdB_yes ⟨hok2, hp⟩]
    have e1 : grA (L ++ [⟨lt, 4, p, 0, 0, 0, 0⟩]) p t (r : Int) = grA L p t (r : Int) := by
      rw [grA_snoc, if_neg (show ¬ (t < lt ∨ p ≠ p) by omega), if_neg (show ¬ ((4 : Int) = 1) by decide), if_neg (show ¬ ((4 : Int) = 2) by decide)]
    have e2 : grA L p t (r : Int) = grA L p lt (r : Int) := gr_later L p t lt r ht L.length h.tm
    show (grA (L ++ [⟨lt, 4, p, 0, 0, 0, 0⟩]) p t (r : Int)).isSome = false
    rw [e1, e2]
    cases hc : (grA L p lt (r : Int)).isSome with
    | false => rfl
    | true =>
      obtain ⟨h1, h2⟩ := h.gr r hc
      exfalso
      apply h2
      rw [List.take_of_length_le (by rw [idx_len]; exact hk)]
      refine (idx_mem _ r 24).2 ⟨?_, by rw [gdB_yes ⟨hok, hp⟩]; exact h1⟩
      obtain ⟨i, hi⟩ := Option.isSome_iff_exists.1 h1
      have := hok.gr_rng hi
      omega
theorem idx_lt (q : Nat → Bool) {k : Nat} (hk : k < cnt q 24) : (idx q 24).getD k 0 < 24 := by
  have hm : (idx q 24).getD k 0 ∈ idx q 24 := by
    rw [List.getD_eq_getElem?_getD, List.getElem?_eq_getElem (by rw [idx_len]; exact hk)]
    exact List.getElem_mem _
  exact ((idx_mem q _ 24).1 hm).1

set_option maxRecDepth 100000 in
set_option maxHeartbeats 8000000 in
theorem walk (a0 : Option Addr) (len0 cap0 : Nat) (z0 : List Int) (w : World) (w0 : IsRow .i64 w a0 len0 cap0 z0) :
    Calls Try.prog 6 #[.slice a0 len0 cap0] w fun e w' => e = .returned (.bool true) ∧ Below w.heap.size w w' := by
  have hm := w0.at_.1
  unfold maxLen at hm
  have HTP := Lib.hid (tape_new w0)
  have HBX := Lib.hid (box_below w (.cells #[.slice a0 len0 cap0, .int .i64 0] 29))
  clear w0
  by_cases hlen : 300 < len0
  · have hl0 : (300 : Int) < (len0 : Int) := by omega
    go_enter Try.func6, Try.ntmps6
    go_wp2_with (go_at_call 14; refine (awake_any _).mono ?_; rintro e w1 ⟨rfl, hb1⟩; have HB1 := Lib.hid hb1; clear hb1)
    go_ret
    exact ⟨rfl, HB1.out⟩
  · have hl0 : (len0 : Int) ≤ (300 : Int) := by omega
    go_enter Try.func6, Try.ntmps6
    go_wp2_with fail
    refine (directory_any w.heap.size _ HTP.out (by simp)).mono ?_
    rintro e w1 ⟨d, v, rfl, hmk, hrl, hg1, ht1⟩
    have hb1 : Below w.heap.size w w1 := HBX.out.grown hg1 HBX.out.size (fun k e => by cases e; exact Nat.le_refl _)
    have hs1 := hg1.size
    simp at hs1
    have HB1 := Lib.hid hb1
    have HT1 := Lib.hid ht1
    have hn1 := hmk.n1
    have hn7 := hmk.n7
    clear hrl hg1 ht1 hb1 hmk
    go_wp2_with fail
    refine (estate_any w.heap.size d v w1 HT1.out (by omega) hn1 hn7).mono ?_
    rintro e w2 ⟨a, ⟨A, vc⟩, rfl, hme, hel, hg2, ht2⟩
    have hb2 : Below w.heap.size w w2 := HB1.out.grown hg2 HB1.out.size (fun k e => by cases e; exact Nat.le_refl _)
    have hs2 : w.heap.size + 1 ≤ w2.heap.size := by have := hg2.size; omega
    have HQ := Lib.hid (heap_alloc_new w2 (.cells (ge a ⟨A, vc⟩) 25))
    have HEL := Lib.hid (Row.below (hel.base (show w.heap.size + 1 ≤ _ by omega)) (box_below w2 (.cells (ge a ⟨A, vc⟩) 25)))
    have HB2 := Lib.hid (hb2.trans ((box_below w2 (.cells (ge a ⟨A, vc⟩) 25)).mono hb2.size))
    have HT2 := Lib.hid (tape_new2 ht2 (.cells (ge a ⟨A, vc⟩) 25))
    have HME := Lib.hid hme
    have ha1 := hme.ok.n1
    have ha4 := hme.n4
    have ha15 := hme.m15
    clear hel hg2 ht2 hb2 hme HB1 HT1 HBX HTP
    obtain ⟨g0, g1⟩ := geCells HQ.out
    go_wp2_with (with_reducible (show wpList _ _ _ (⟨none, .store 25 (.tmp 4) (.tmp 23), _, _, _, _⟩ :: _) _ _); refine wpList_store_row (o := ⟨none, .store 25 (.tmp 4) (.tmp 23), _, _, _, _⟩) rfl 25 (.tmp 4) (.tmp 23) rfl w2.heap.size (ge a ⟨A, vc⟩) rfl rfl 25 zE (heap_alloc_new _ _) (infoEs _ _) rfl (ge_one _ _) ?_; rw [new_set])
    have lQ : w2.heap.size < (w2.alloc (.cells (ge a ⟨A, vc⟩) 25)).heap.size := row_lt HQ.out
    generalize w2.alloc (.cells (ge a ⟨A, vc⟩) 25) = W1 at *
    generalize w2.heap.size = Q at *
    have HNA := Lib.hid (fun w' (h : TapeOk w' w.heap.size) => next_any w.heap.size a.n w' h (by omega) (by omega))
    refine (HNA.out _ HT2.out).mono ?_
    rintro e w3 ⟨zp, zp0, zp1, rfl, hgp, htp⟩
    obtain ⟨p, rfl⟩ : ∃ k : Nat, zp = k := ⟨zp.toNat, by omega⟩
    have HQ3 := Lib.hid ((hgp.block _ lQ (fun e => by injection e; omega)).trans HQ.out)
    have HE3 := Lib.hid (HEL.out.grown hgp (fun g e => by cases e; omega))
    have HB3 := Lib.hid (HB2.out.grown hgp HB2.out.size (fun k e => by cases e; exact Nat.le_refl _))
    have hpn : (p : Int) < a.n := by omega
    clear hgp htp g0 g1 HQ HEL HB2 HT2
    have HOK1 := Lib.hid HME.out.ok
    obtain ⟨lt, hlt, hlt2, hltm⟩ := Eok.last HME.out
    have HLT := Lib.hid hlt
    have HLM := Lib.hid hltm
    clear hlt hltm
    obtain ⟨g0, g1⟩ := geCells HQ3.out
    go_upto_if 31 with fail
    go_cut [6] from 28 to 40 (fun s6 wx => s6 = .int .i64 (lt : Int) ∧ w3 = wx)
    case first =>
      by_cases hE : a.e.length = 0
      · have hd : decide ((0 : Int) < (a.e.length : Int)) = false := decide_eq_false (by omega)
        have hd2 : ¬ 0 < a.e.length := by omega
        have hl0 : (0 : Int) = (lt : Int) := by rw [← HLT.out]; unfold lastA; rw [if_pos hE]
        have HL0 := Lib.hid hl0
        clear hl0 hE
        go_wp2_with fail
        go_meet
        case rel => exact ⟨by rw [HL0.out], rfl⟩
      · have hd : decide ((0 : Int) < (a.e.length : Int)) = true := decide_eq_true (by omega)
        have hd2 : 0 < a.e.length := by omega
        obtain ⟨m, hm⟩ : ∃ m, a.e.length = m + 1 := ⟨a.e.length - 1, by omega⟩
        obtain ⟨be, oe, hA2, -, -, hac⟩ := Row.ac HE3.out (show m < a.e.length by omega)
        have hA2 : A = some ⟨be, oe, none⟩ := hA2
        obtain ⟨y0, -, -, -, -, -, -⟩ := hac
        have hy : (ag a.e m).t = (lt : Int) := by rw [← HLT.out]; unfold lastA; rw [if_neg (by omega), show a.e.length - 1 = m by omega]
        rw [hy] at y0
        have hw1 : IntKind.i64.wrap ((a.e.length : Int) - 1) = (m : Int) := by rw [IntWalk.i64_in _ (by omega)]; omega
        have hw2 : (a.e.length : Int) - 1 = (m : Int) := by omega
        have m2' : (m : Int) ≤ 20 := by omega
        have m0' : (0 : Int) ≤ (m : Int) := by omega
        have m1' : (m : Int) < (a.e.length : Int) := by omega
        subst hA2
        clear hE hm hy
        go_wp2_with fail
        go_meet
        case rel => exact ⟨rfl, rfl⟩
    case rest =>
    obtain ⟨rfl, rfl⟩ := hcut
    have hbc := box_below w3 (.cells (ge a ⟨A, vc⟩) 25)
    have HC4 := Lib.hid (heap_alloc_new w3 (.cells (ge a ⟨A, vc⟩) 25))
    have lC := row_lt HC4.out
    have lQ3 : Q < w3.heap.size := row_lt HQ3.out
    have z0 := fun o => (World.cell?_alloc_lt w3 o _ lQ3).trans g0
    have z1 := fun o => (World.cell?_alloc_lt w3 o _ lQ3).trans g1
    have HEF := Lib.hid (fun wr (h : Below w3.heap.size w3 wr) => Row.base (B' := 0) (Row.below HE3.out h) (Nat.zero_le _))
    have HQF := Lib.hid (fun wr (h : Below w3.heap.size w3 wr) => (h.block _ lQ3).trans HQ3.out)
    have HBF := Lib.hid (fun wr (h : Below w3.heap.size w3 wr) => HB3.out.trans (h.mono HB3.out.size))
    have HB34 := Lib.hid hbc
    obtain ⟨j0, hj1, hy0, hy1, hy2⟩ := info_parts zinfoAc
    have HJ := Lib.hid hj1
    have HJ0 := Lib.hid hy0
    have HJ1 := Lib.hid hy1
    have HJ2 := Lib.hid hy2
    have HE4 := Lib.hid (HEF.out _ hbc)
    have HF := Lib.hid (show (#[.int .i64 a.n, .slice A a.e.length vc] : Array Value) = ge a ⟨A, vc⟩ from rfl)
    have HGR := Lib.hid (fun w' (hw : Below w3.heap.size w3 w') => granted_any a ⟨A, vc⟩ p lt w' (HEF.out w' hw))
    have HIX := Lib.hid (fun k (hk : k < cnt (gdB a p lt) 24) => idx_lt (gdB a p lt) hk)
    have HILN := Lib.hid (idx_len (gdB a p lt) 24)
    have hcnt := cnt_le (gdB a p lt) 24
    have hap : (0 : Int) ≤ (p : Int) ∧ (p : Int) < a.n := ⟨by omega, hpn⟩
    have HAP := Lib.hid hap
    have hl01 : (0 : Int) ≤ (lt : Int) ∧ (lt : Int) ≤ 1000 := ⟨by omega, by omega⟩
    have HL01 := Lib.hid hl01
    have HST := Lib.hid (RRel.start (p := p) (lt := lt) HOK1.out (idx (gdB a p lt) 24) HLM.out)
    have HSTEP := Lib.hid (fun (k : Nat) (L : List Ac) (h : RRel a p lt (idx (gdB a p lt) 24) k L) (hk : k < cnt (gdB a p lt) 24) => h.step hap hl01 (idx_lt _ hk) (by rw [idx_len]; exact hk) (by omega))
    have HFIN := Lib.hid (fun (k : Nat) (L : List Ac) (h : RRel a p lt (idx (gdB a p lt) 24) k L) (hk : cnt (gdB a p lt) 24 ≤ k) (hk2 : k ≤ 24) => h.fin HOK1.out hap hl01 hk (by omega))
    clear hbc hj1 hy0 hy1 hy2 hap hl01
    go_wp2_with (first
      | (at_builtin; refine app_list rfl (.const (.slice none 0 0)) (.tmp 43) w3.heap.size _ 23 52 rfl j0 (.agg #[.int .i64 0, .int .i64 0, .int .i64 0, .int .i64 0, .int .i64 0, .int .i64 0, .int .i64 0]) 7 56 Try.underlying23 HJ.out HJ0.out HJ1.out HJ2.out rfl (by omega) (.slice none 0 0) 0 [] rfl (own_nil _ _ _ _) A a.e.length vc (av a.e) rfl HE4.out (av_one _) (by omega) (by omega) (by simp) ?_; intro v1 w5 hown1 hgr1 _; rw [Nat.zero_add, List.nil_append] at hown1; obtain ⟨A2, c2, rfl⟩ := own_form hown1; have O5 := Lib.hid hown1; have hb45 := (Below.refl (w3.alloc (.cells (ge a ⟨A, vc⟩) 25)).heap.size (w3.alloc (.cells (ge a ⟨A, vc⟩) 25))).grown hgr1 (Nat.le_refl _) (fun k e => by cases e); have C5 := Lib.hid ((hb45.block _ lC).trans HC4.out); have B5 := Lib.hid (HB34.out.trans (hb45.mono (by simp))); clear hown1 hgr1 hb45; obtain ⟨r0, r1⟩ := geCells C5.out; have r2 : w5.frozen? ⟨w3.heap.size, 1, none⟩ = false := frozen_of_row _ _ _ _ _ C5.out; obtain ⟨V, hV⟩ : ∃ V, w5.setCell ⟨w3.heap.size, 1, none⟩ (.slice A2 a.e.length c2) = V := ⟨_, rfl⟩; have EV : V = w5.setRow w3.heap.size (ge a ⟨A2, c2⟩) := (by rw [← hV]; exact setCell_eq_setRow _ _ _ _ _ _ _ C5.out); have CV := Lib.hid (show V.heap[w3.heap.size]? = some (.cells (ge a ⟨A2, c2⟩) 25 (0, 0)) by rw [EV]; exact setRow_heap _ _ _ _ _ _ C5.out); have OV := Lib.hid (show V.ownsRow w3.heap.size 52 7 (.slice A2 a.e.length c2) a.e.length (av a.e) by rw [EV]; exact kept_ne O5.out (gb_setRow _ _ _) (fun g e => by cases e; exact own_not O5.out C5.out (by decide))); have BV := Lib.hid (show Below w3.heap.size w3 V by rw [EV]; exact below_setRow B5.out (Nat.le_refl _) _); clear EV; obtain ⟨p0, p1⟩ := geCells (HQF.out V BV.out); clear z0 z1 g0 g1)
      | (go_at_call 29; rw [HF.out]; refine (HGR.out _ BV.out).mono ?_; rintro e w6 ⟨X, x, rfl, hown6, hb6⟩; have CRV := Lib.hid (crel_below (⟨A2, c2, CV.out, OV.out⟩ : CRel w3.heap.size w3.heap.size a.n a.e V) hb6); have B6 := Lib.hid (BV.out.trans (hb6.mono BV.out.size)); have O6 := Lib.hid (own_base hown6 BV.out.size); clear hown6 hb6 p0 p1))
    generalize gdB a p lt = q at *
    generalize hF : idx q 24 = F at *
    have HFF := Lib.hid hF
    clear hF HGR HF HE4 HC4 HB34 lC
    generalize cnt q 24 = nm at *
    have HCC := Lib.hid (show w3.heap.size ≤ w3.heap.size from Nat.le_refl _)
    generalize w3.heap.size = C at *
    go_loopw [51] (fun ii wr => ∃ (k : Nat) (L : List Ac), k ≤ nm ∧ ii = .int .i64 (k : Int) ∧ RRel a p lt F k L ∧ CRel C C a.n L wr ∧ Below C w3 wr ∧ wr.ownsRow C 3 1 (.slice X nm x) nm (iv F)) (fun ii _ => nm - (intOf ii).toNat)
    case atStart => exact ⟨0, a.e, by omega, rfl, HST.out, CRV.out, B6.out, O6.out⟩
    case round =>
      obtain ⟨k, L, hk, rfl, hrr, ⟨A', c', hc, ho⟩, hbl, hox⟩ := hrel
      have HRR := Lib.hid hrr
      have HC := Lib.hid hc
      have HO := Lib.hid ho
      have HBL := Lib.hid hbl
      have HOX := Lib.hid hox
      obtain ⟨v0, v1⟩ := geCells hc
      have hLl := hrr.len
      have hcw : C < wr.heap.size := row_lt hc
      have q1 : wr.frozen? ⟨C, 1, none⟩ = false := frozen_of_row _ _ _ _ _ hc
      by_cases hlt : k < nm
      · obtain ⟨b, off, e6, -, -, y0⟩ := (row_of_own hox).int hlt
        have hX : X = some ⟨b, off, none⟩ := e6
        subst hX
        have HSR := Lib.hid (HSTEP.out k L hrr hlt)
        generalize F.getD k 0 = r at *
        have i0' : (0 : Int) ≤ (k : Int) := by omega
        have i1' : (k : Int) < (nm : Int) := by omega
        clear hrr hc ho hbl hox CRV B6 O6
        have hL40 : L.length ≤ 60 := by omega
        have HLLL := Lib.hid hLl
        clear hLl
        go_wp2_with (at_builtin; refine wpList_append_own _ rfl (.tmp 56) (.tmp 61) 23 rfl C 52 j0 (.agg #[.int .i64 0, .int .i64 0, .int .i64 0, .int .i64 0, .int .i64 0, .int .i64 0, .int .i64 0]) 7 56 Try.underlying23 HJ.out HJ0.out HJ1.out HJ2.out rfl (by decide) _ L.length (av L) rfl (HO.out.alloc _) ⟨wr.heap.size, 0, none⟩ 1 1 [.int .i64 (lt : Int), .int .i64 2, .int .i64 (p : Int), .int .i64 (r : Int), .int .i64 0, .int .i64 0, .int .i64 0] rfl rfl (World.news_of_block (heap_alloc_new wr _)) (by simp [Value.oneCell']) (by unfold maxLen; omega) (by omega) (by simp; omega) ?_; intro v' w12 hown hgr _; obtain ⟨A2, c2, rfl⟩ := own_form hown; have Q12 := Lib.hid (crel_q HC.out HO.out hgr); have HADD := Lib.hid (crel_add (x := ⟨lt, 2, p, r, 0, 0, 0⟩) HC.out HO.out hgr hown); have B12 := Lib.hid ((HBL.out.trans ((box_below _ _).mono (by first | omega | (simp; omega)))).grown hgr (by simp; omega) (fun g e => (HO.out.lt g e).1)); have XX1 := Lib.hid (kept_ne (HOX.out.alloc _) hgr (fun g e => own_ne HO.out HOX.out (by decide) g e)); have XX2 := Lib.hid (kept_ne XX1.out (gb_setRow w12 C ((ge ⟨a.n, L⟩ ⟨A', c'⟩).setIfInBounds 1 (.slice A2 (L.length + 1) c2))) (fun g e => by cases e; exact own_not XX1.out Q12.out (by decide))); clear hown hgr; obtain ⟨r0, r1⟩ := geCells Q12.out; have r2 : w12.frozen? ⟨C, 1, none⟩ = false := frozen_of_row _ _ _ _ _ Q12.out)
        rw [setCell_eq_setRow w12 C 1 _ _ _ _ Q12.out]
        exact ⟨⟨k + 1, _, by omega, by go_num, HSR.out, HADD.out, below_setRow B12.out (Nat.le_refl _) _, XX2.out⟩, by simp [intOf]; omega⟩
      · obtain rfl : k = nm := by omega
        have HN := Lib.hid (HFIN.out k L hrr (Nat.le_refl _) hcnt)
        have hL40 : L.length ≤ 60 := by omega
        clear hrr hc ho hbl hox CRV B6 O6 hLl
        go_wp2_with (at_builtin; refine wpList_append_own _ rfl (.tmp 66) (.tmp 70) 23 rfl C 52 j0 (.agg #[.int .i64 0, .int .i64 0, .int .i64 0, .int .i64 0, .int .i64 0, .int .i64 0, .int .i64 0]) 7 56 Try.underlying23 HJ.out HJ0.out HJ1.out HJ2.out rfl (by decide) _ L.length (av L) rfl (HO.out.alloc _) ⟨wr.heap.size, 0, none⟩ 1 1 [.int .i64 (lt : Int), .int .i64 4, .int .i64 (p : Int), .int .i64 0, .int .i64 0, .int .i64 0, .int .i64 0] rfl rfl (World.news_of_block (heap_alloc_new wr _)) (by simp [Value.oneCell']) (by unfold maxLen; omega) (by omega) (by simp; omega) ?_; intro v' w12 hown hgr _; obtain ⟨A2, c2, rfl⟩ := own_form hown; have Q12 := Lib.hid (crel_q HC.out HO.out hgr); have HADD := Lib.hid (crel_add (x := ⟨lt, 4, p, 0, 0, 0, 0⟩) HC.out HO.out hgr hown); have B12 := Lib.hid ((HBL.out.trans ((box_below _ _).mono (by first | omega | (simp; omega)))).grown hgr (by simp; omega) (fun g e => (HO.out.lt g e).1)); obtain ⟨V2, hV2⟩ : ∃ V, w12.setCell ⟨C, 1, none⟩ (.slice A2 (L.length + 1) c2) = V := ⟨_, rfl⟩; have EV2 : V2 = w12.setRow C ((ge ⟨a.n, L⟩ ⟨A', c'⟩).setIfInBounds 1 (.slice A2 (L.length + 1) c2)) := (by rw [← hV2]; exact setCell_eq_setRow _ _ _ _ _ _ _ Q12.out); have HV2 := Lib.hid (show CRel C C a.n (L ++ [⟨lt, 4, p, 0, 0, 0, 0⟩]) V2 by rw [EV2]; exact HADD.out); have BV2 := Lib.hid (show Below C w3 V2 by rw [EV2]; exact below_setRow B12.out (Nat.le_refl _) _); clear EV2; clear hown hgr; obtain ⟨r0, r1⟩ := geCells Q12.out; have r2 : w12.frozen? ⟨C, 1, none⟩ = false := frozen_of_row _ _ _ _ _ Q12.out)
        obtain ⟨hok2, hfn⟩ := HN.out
        obtain ⟨A3, c3, hc3, ho3⟩ := HV2.out
        have HFN := Lib.hid hfn
        have HOK2 := Lib.hid hok2
        have HQ2 := Lib.hid hc3
        have HE2 := Lib.hid (show EL V2 0 ⟨a.n, L ++ [⟨lt, 4, p, 0, 0, 0, 0⟩]⟩ ⟨A3, c3⟩ from Row.base (B' := 0) (row_of_own ho3) (Nat.zero_le _))
        have HBW := Lib.hid (HBF.out _ BV2.out)
        clear hfn hok2 hc3 ho3
        generalize L ++ [⟨(lt : Int), 4, (p : Int), 0, 0, 0, 0⟩] = M at *
        have HFM := Lib.hid (show (#[.int .i64 a.n, .slice A3 M.length c3] : Array Value) = ge ⟨a.n, M⟩ ⟨A3, c3⟩ from rfl)
        go_loopw [10] (fun tt wr => ∃ k : Nat, k ≤ 8 ∧ tt = .int .i64 ((lt : Int) + (k : Int)) ∧ Below V2.heap.size V2 wr) (fun tt _ => ((lt : Int) + 8 - intOf tt).toNat)
        case atStart => exact ⟨0, by omega, by simp, Below.refl _ _⟩
        case round =>
          obtain ⟨k', hk', rfl, hbl⟩ := hrel
          rename World => wv
          have HBV := Lib.hid hbl
          have HQV := Lib.hid ((hbl.block _ (row_lt HQ2.out)).trans HQ2.out)
          obtain ⟨g0, g1⟩ := geCells HQV.out
          have hw1 : IntKind.i64.wrap ((lt : Int) + 8) = (lt : Int) + 8 := IntWalk.i64_in _ (by omega)
          by_cases hlt' : k' < 8
          · have d1 : decide ((lt : Int) + (k' : Int) < (lt : Int) + 8) = true := decide_eq_true (by omega)
            have d1' : decide ((k' : Int) < 8) = true := decide_eq_true (by omega)
            obtain ⟨h1, h2⟩ := HFN.out ((lt : Int) + (k' : Int)) (by omega)
            have hla := linked_yes ⟨a.n, M⟩ ⟨A3, c3⟩ p ((lt : Int) + (k' : Int)) wv (Row.below HE2.out hbl) ⟨HOK2.out, HAP.out⟩
            rw [h1] at hla
            have hga := fun w' (hw : Below wv.heap.size wv w') => granted_any ⟨a.n, M⟩ ⟨A3, c3⟩ p ((lt : Int) + (k' : Int)) w' (Row.below HE2.out (hbl.trans (hw.mono hbl.size)))
            obtain ⟨e1, e2⟩ := idx_none h2 24
            unfold SmPost at hga
            rw [e1, e2] at hga
            have HLA := Lib.hid hla
            have HGA := Lib.hid hga
            obtain ⟨t, ht⟩ : ∃ t : Int, (lt : Int) + (k' : Int) = t := ⟨_, rfl⟩
            have HTT := Lib.hid ht
            rw [ht] at HLA HGA d1 ⊢
            have ht0 : 0 ≤ t := by omega
            have ht1 : t ≤ 2000 := by omega
            clear h1 h2 e1 e2 hla hga hbl ht d1'
            go_wp2_with (first
              | (go_at_call 27; rw [HFM.out]; refine HLA.out.mono ?_; rintro e w8 ⟨rfl, hb8⟩; have B8 := Lib.hid hb8; have HQ8 := Lib.hid ((hb8.block _ (row_lt HQV.out)).trans HQV.out); clear hb8 g0 g1; obtain ⟨g0, g1⟩ := geCells HQ8.out; simp only [on, Option.isSome])
              | (go_at_call 29; rw [HFM.out]; refine (HGA.out _ B8.out).mono ?_; rintro e w9 ⟨X9, x9, rfl, hown9, hb9⟩; have B9 := Lib.hid (HBV.out.trans ((B8.out.trans (hb9.mono B8.out.size)).mono HBV.out.size)); clear hown9 hb9 g0 g1))
            exact ⟨⟨k' + 1, by omega, congrArg (Value.int .i64) (by have := HTT.out; omega), B9.out⟩, by have := HTT.out; simp [intOf]; omega⟩
          · obtain rfl : k' = 8 := by omega
            have d1 : decide ((lt : Int) + ((8 : Nat) : Int) < (lt : Int) + 8) = false := decide_eq_false (by omega)
            have hck := check_any ⟨a.n, M⟩ ⟨A3, c3⟩ wv (Row.below HE2.out hbl)
            rw [ck_ok HOK2.out] at hck
            have HCK := Lib.hid hck
            clear hck hbl
            go_wp2_with (first
              | (go_at_call 18; rw [HFM.out]; refine HCK.out.mono ?_; rintro e w8 ⟨rfl, hb8⟩; have B8 := Lib.hid (HBV.out.trans (hb8.mono HBV.out.size)); clear hb8 g0 g1)
              | (go_at_call 14; refine (awake_any _).mono ?_; rintro e w9 ⟨rfl, hb9⟩; have B9 := Lib.hid (HBW.out.trans ((B8.out.trans (hb9.mono B8.out.size)).mono HBW.out.size)); clear hb9))
            go_ret
            exact ⟨by first | rfl | simp, B9.out⟩

/-! ### THE ROW's STEP: WRITTEN OUT: LEAVE IT -/
set_option maxRecDepth 100000 in
theorem lifted (os : Os) (started : os.Started) (H : Type) (enc : TypeId × Value → H) :
    ReturnsInHanded {} Try.checked os 6 .any (Rows.accessRevokesSpec.pre6 enc Try.prog Try.f6 Rows.accessRevokesRow.domain false) (Rows.accessRevokesSpec.post enc Try.prog Try.f6 false true false false) := by
  refine returnsInHanded_of_change (C := Try.checked) own started (by kernel_rfl) Try.func6
    (ChangeSpec.witness6 (enc := enc) (C := Try.checked) false ⟨#[], #[.slice none 0 0], []⟩ 8 (by kernel_rfl) (by kernel_rfl) (by kernel_rfl) (by kernel_rfl)) ?_
  intro W base args ds gs before hval0 hW hcnd _
  have hval : ∀ (j : Nat) t v, Try.f6.params[j]? = some t → args[j]? = some v → Value.okWide Try.prog W .any base t v := hval0
  have hW' := hW
  obtain ⟨p, q, hA0, hV, rfl, hfz, hnd⟩ := hW
  have hA : DataW.TrodAll enc Try.prog W 0 (fun _ => true) true Try.f6.params.toList args.toList ds p := hA0
  rw [Try.params6] at hA hval
  obtain ⟨v0, vs0, d0, ds0, p0, q0, hargs, rfl, rfl, h0, r0⟩ := trodAll_cons hA
  obtain ⟨rfl, rfl, rfl⟩ := trodAll_nil r0
  obtain rfl : args = #[v0] := by cases args; simp_all
  obtain ⟨rfl, rfl⟩ := trodVars_none hV
  obtain ⟨a0, len0, cap0, rfl⟩ := okWide_slice Try.underlying22 (hval 0 22 v0 rfl rfl)
  have k0 := h0
  have lt0 : ∀ x ∈ p0, x.block < W.heap.size := by obtain ⟨m, hm⟩ := k0; exact DataW.trod_lt m _ _ _ hm
  obtain ⟨z0, w0⟩ : ∃ zs, IsRow .i64 W a0 len0 cap0 zs := by
    obtain ⟨fuel, hf⟩ := h0
    rcases open_ints Try.underlying22 Try.underlying3 (by kernel_rfl) hf with ⟨hcs, _⟩ | ⟨x, l, c, zs, hcs, _, hl, hm, hz, _, hcell, hwz⟩
    · simp [Value.cells] at hcs
      obtain ⟨rfl, rfl, rfl⟩ := hcs
      exact ⟨[], .inl ⟨rfl, rfl, rfl, rfl⟩⟩
    · simp [Value.cells] at hcs
      obtain ⟨rfl, rfl, rfl⟩ := hcs
      exact ⟨zs, .inr ⟨_, rfl, hl, hm, by simpa using hz, hcell, hwz⟩⟩
  clear hA0 hval0
  refine (walk a0 len0 cap0 z0 W w0).mono fun e W' ⟨he, bel⟩ => ?_
  subst he
  exact ⟨_, rfl, _, _, _, [], _, [], hW', trodAll_mk1 (shut_bool Try.underlying4 _), (trodAll_cons_mk (Below.trod laidOut (by kernel_rfl) (of_decide_eq_true (by kernel_rfl)) k0 bel lt0) trodAll_mk0), rfl, bel.frame _, fun h => by cases h⟩

theorem over : Rows.accessRevokesRow.holds Try.pinned (OpenSpec.ofChange Rows.accessRevokesSpec) :=
  OpenClaim.holds_of_wide 6 Try.f6 rfl rfl rfl rfl rfl rfl rfl ⟨rfl, rfl, rfl, rfl, rfl⟩ rfl rfl rfl rfl rfl (by kernel_rfl) Try.func6 (by kernel_rfl)
    (of_decide_eq_true (by kernel_rfl)) (by unfold Func.isWrapper; first | (rw [if_pos (by decide +kernel)]; kernel_rfl) | (rw [if_neg (by decide +kernel)]; exact ⟨rfl, rfl⟩))
    (fun os started H enc _ => lifted os started H enc)

/-- ████ THE STATEMENT ████ -/
theorem proved : Rows.AccessRevokesSaid := over
#print axioms proved
end Go.Proofs.Ytfdmneceecaocaa.accessRevokes
