import Derived.Test.YtgaliinjjonlmaaDtOps
import Derived.Deep.CutBlock
import Derived.Deep.AppendLies
namespace Go.Proofs.Ytgaliinjjonlmaa.Dt
open Go.RowKit
open Go.Proofs.Ytgaliinjjonlmaa.Tp
set_option linter.unusedVariables false

theorem By.cells {w : World} {A : Option Addr} {N c : Nat} {bs : List Nat} (h : By w (.slice A N c) bs) (hN : bs.length = N) (h0 : 0 < N) : ∃ b off, A = some ⟨b, off, none⟩ ∧ N ≤ c ∧ b < w.heap.size ∧ ∀ j, j < N → w.cell? ⟨b, off + j, none⟩ = some (.int .u8 ((bs.getD j 0 : Nat) : Int)) := by
  rcases h.2 with ⟨e, rfl⟩ | ⟨b, off, c', e, h1, h2, h3, h4⟩
  · simp at hN
    omega
  · cases e
    exact ⟨b, off, rfl, h1, h3, h4⟩

theorem below_drewN' {Z : Nat} {a w : World} (h : Below Z a w) (n : Nat) : Below Z a (w.drewN n) := h.trans ⟨rfl, rfl, rfl, Nat.le_refl _, fun _ _ => rfl⟩

theorem getD_le {bs : List Nat} (h : ∀ b ∈ bs, b ≤ 255) (j : Nat) : bs.getD j 0 ≤ 255 := by
  rw [List.getD_eq_getElem?_getD]
  cases hx : bs[j]? with
  | none => simp
  | some x =>
    have := h x (List.mem_of_getElem? hx)
    simpa using this

theorem take_more {a b : List Nat} {f : Nat} (h : a.take f = b.take f) (ha : f < a.length) (hb : f < b.length) (e : a.getD f 0 = b.getD f 0) : a.take (f + 1) = b.take (f + 1) := by
  rw [List.getD_eq_getElem?_getD, List.getD_eq_getElem?_getD, List.getElem?_eq_getElem ha, List.getElem?_eq_getElem hb] at e
  rw [List.take_add_one, List.take_add_one, h, List.getElem?_eq_getElem ha, List.getElem?_eq_getElem hb]
  simp only [Option.getD_some] at e
  rw [e]

theorem drop_more {a b : List Nat} {g : Nat} (h : a.drop (a.length - g) = b.drop (b.length - g)) (ha : g < a.length) (hb : g < b.length) (e : a.getD (a.length - 1 - g) 0 = b.getD (b.length - 1 - g) 0) : a.drop (a.length - (g + 1)) = b.drop (b.length - (g + 1)) := by
  have e1 : a.length - (g + 1) = a.length - 1 - g := by omega
  have e2 : b.length - (g + 1) = b.length - 1 - g := by omega
  have e3 : a.length - g = a.length - 1 - g + 1 := by omega
  have e4 : b.length - g = b.length - 1 - g + 1 := by omega
  rw [e1, e2]
  rw [e3, e4] at h
  rw [List.getD_eq_getElem?_getD, List.getD_eq_getElem?_getD, List.getElem?_eq_getElem (by omega), List.getElem?_eq_getElem (by omega)] at e
  simp only [Option.getD_some] at e
  rw [List.drop_eq_getElem_cons (by omega), List.drop_eq_getElem_cons (show b.length - 1 - g < b.length by omega), h, e]

theorem apl_eq (base : List Nat) (os : List O) : ∀ n, n ≤ os.length → apl base os n = (os.take n).flatMap (ap base)
  | 0, _ => by simp [apl]
  | n + 1, h => by
    have ih := apl_eq base os n (by omega)
    have e : os.take (n + 1) = os.take n ++ [os.getD n o0] := by
      rw [List.take_add_one, List.getD_eq_getElem?_getD, List.getElem?_eq_getElem (by omega)]
      rfl
    simp only [apl]
    rw [ih, e, List.flatMap_append]
    simp

theorem apl_all (base : List Nat) (ps : List (O × Value)) : apl base (ps.map (·.1)) ps.length = ps.flatMap (fun p => ap base p.1) := by
  rw [apl_eq base _ _ (by simp), List.take_of_length_le (by simp), List.flatMap_map]

def ps1 (f : Nat) : List (O × Value) := if 0 < f then [(⟨0, f, []⟩, .slice none 0 0)] else []
def ps3 (N g : Nat) : List (O × Value) := if 0 < g then [(⟨N - g, g, []⟩, .slice none 0 0)] else []

/-- What stands between the front and the end: nothing, or one insertion. -/
def Mid (b : List Nat) (f g M : Nat) (ms : List (O × Value)) : Prop :=
  (ms = [] ∧ f + g = M) ∨ ∃ B k cc, ms = [(⟨0, 0, (b.drop f).take (M - g - f)⟩, .slice B k cc)] ∧ f + g < M ∧ k = M - g - f

theorem joins {a b : List Nat} {f g N M : Nat} {ms : List (O × Value)} (hN : a.length = N) (hM : b.length = M) (h1 : a.take f = b.take f) (h2 : a.drop (N - g) = b.drop (M - g)) (hf : f + g ≤ N) (hf2 : f + g ≤ M) (hm : Mid b f g M ms) :
    (ps1 f ++ ms ++ ps3 N g).flatMap (fun p => ap a p.1) = b := by
  have e1 : (ps1 f).flatMap (fun p => ap a p.1) = b.take f := by
    unfold ps1
    by_cases h : 0 < f
    · rw [if_pos h]
      simp [ap, h1]
    · rw [if_neg h]
      obtain rfl : f = 0 := by omega
      simp
  have e2 : ms.flatMap (fun p => ap a p.1) = (b.drop f).take (M - g - f) := by
    rcases hm with ⟨rfl, h⟩ | ⟨B, k, cc, rfl, h, _⟩
    · have : M - g - f = 0 := by omega
      rw [this]
      simp
    · simp [ap]
  have e3 : (ps3 N g).flatMap (fun p => ap a p.1) = b.drop (M - g) := by
    unfold ps3
    by_cases h : 0 < g
    · rw [if_pos h]
      simp only [List.flatMap_cons, List.flatMap_nil, List.append_nil, ap]
      rw [List.take_of_length_le (by simp; omega), h2]
    · rw [if_neg h]
      obtain rfl : g = 0 := by omega
      rw [Nat.sub_zero, ← hM, List.drop_length]
      simp
  rw [List.flatMap_append, List.flatMap_append, e1, e2, e3]
  have e4 : M - g = f + (M - g - f) := by omega
  conv => lhs; rw [e4]
  rw [Nat.add_sub_cancel_left, ← List.drop_drop, List.append_assoc, List.take_append_drop, List.take_append_drop]

theorem fin_res {w wr : World} {ps ms : List (O × Value)} {v : Value} {a b : List Nat} {f g N M : Nat} (h : St w ps v wr) (e : ps = ps1 f ++ ms ++ ps3 N g) (hN : a.length = N) (hM : b.length = M) (h1 : a.take f = b.take f) (h2 : a.drop (N - g) = b.drop (M - g)) (hf : f + g ≤ N) (hf2 : f + g ≤ M) (hm : Mid b f g M ms) :
    ∃ A k c os vs, v = .slice A k c ∧ OLies wr A k os vs ∧ (∀ j, j < k → VO a.length (os.getD j o0) (vs.getD j undef)) ∧ k ≤ 3 ∧ apl a os k = b := by
  obtain ⟨A, c, hv, hl⟩ := h.olies
  have hvo : ∀ p ∈ ps, VO a.length p.1 p.2 := by
    intro p hp
    rw [e] at hp
    rcases List.mem_append.1 hp with hp | hp
    · rcases List.mem_append.1 hp with hp | hp
      · unfold ps1 at hp
        split at hp
        · have := List.mem_singleton.1 hp
          subst this
          exact .inr ⟨by simpa using (by assumption), rfl, by show f ≤ a.length; omega, by show 0 ≤ a.length - f; omega⟩
        · simp at hp
      · rcases hm with ⟨rfl, _⟩ | ⟨B, k, cc, rfl, h5, h6⟩
        · simp at hp
        · have := List.mem_singleton.1 hp
          subst this
          exact .inl ⟨rfl, rfl, B, k, cc, rfl, by omega⟩
    · unfold ps3 at hp
      split at hp
      · have := List.mem_singleton.1 hp
        subst this
        exact .inr ⟨by simpa using (by assumption), rfl, by show g ≤ a.length; omega, by show N - g ≤ a.length - g; omega⟩
      · simp at hp
  refine ⟨A, ps.length, c, _, _, hv, hl, fun j hj => ?_, ?_, ?_⟩
  · have := hvo ps[j] (List.getElem_mem hj)
    simpa [List.getD_eq_getElem?_getD, hj] using this
  · have e1 : (ps1 f).length ≤ 1 := by
      unfold ps1
      split <;> simp
    have e2 : ms.length ≤ 1 := by
      rcases hm with ⟨rfl, _⟩ | ⟨B, k, cc, rfl, _⟩ <;> simp
    have e3 : (ps3 N g).length ≤ 1 := by
      unfold ps3
      split <;> simp
    rw [e]
    simp
    omega
  · rw [apl_all, e]
    exact joins hN hM h1 h2 hf hf2 hm

def MRes (w : World) (a b : List Nat) (e : Ending) (w' : World) : Prop :=
  ∃ A k c os vs, e = .returned (.tuple #[.slice A k c, .int .i64 0]) ∧ OLies w' A k os vs ∧ (∀ j, j < k → VO a.length (os.getD j o0) (vs.getD j undef)) ∧ k ≤ 3 ∧ apl a os k = b ∧ Below w.heap.size w w'

set_option maxRecDepth 100000 in
set_option maxHeartbeats 4000000 in
theorem make_any (A B : Option Addr) (N M ca cb : Nat) (a b : List Nat) (w : World) (ha : By w (.slice A N ca) a) (hb : By w (.slice B M cb) b) (hN : a.length = N) (hM : b.length = M) (hN2 : N ≤ 1000) (hM2 : M ≤ 1000) :
    Calls Try.prog 24 #[.slice A N ca, .slice B M cb] w (MRes w a b) := by
  have HA := Lib.hid (fun w' (hw : Below w.heap.size w w') => ha.below hw)
  have HB := Lib.hid (fun w' (hw : Below w.heap.size w w') => hb.below hw)
  have HN := Lib.hid hN
  have HM := Lib.hid hM
  clear ha hb hN hM
  obtain ⟨mo, hmo⟩ : ∃ mo, min N M = mo := ⟨_, rfl⟩
  have hmN : mo ≤ N := by omega
  have hmM : mo ≤ M := by omega
  have HMO := Lib.hid hmo
  clear hmo
  go_enter Try.func24, Try.ntmps24
  go_upto_region 3 with fail
  go_cut [6] from 19 to 23 (fun s6 wx => s6 = .int .i64 (mo : Int) ∧ w = wx)
  case first =>
    by_cases hle : N ≤ M
    · obtain rfl : mo = N := by have := HMO.out; omega
      have hlI : (mo : Int) ≤ (M : Int) := by omega
      have hlI2 : ¬ ((M : Int) < (mo : Int)) := by omega
      go_wp2_with fail
      go_meet
      case rel => exact ⟨rfl, rfl⟩
    · obtain rfl : mo = M := by have := HMO.out; omega
      have hlI : (mo : Int) < (N : Int) := by omega
      have hlI2 : ¬ ((N : Int) ≤ (mo : Int)) := by omega
      go_wp2_with fail
      go_meet
      case rel => exact ⟨rfl, rfl⟩
  case rest =>
  obtain ⟨rfl, rfl⟩ := hcut
  go_upto_block 0 with fail
  go_cut [7] from 24 to 39 (fun s7 wx => ∃ f : Nat, f ≤ mo ∧ s7 = .int .i64 f ∧ a.take f = b.take f ∧ Below w.heap.size w wx)
  case first =>
    go_wp2_with fail
    go_loopw [7] (fun s7 wr => ∃ f : Nat, f ≤ mo ∧ s7 = .int .i64 f ∧ a.take f = b.take f ∧ Below w.heap.size w wr) (fun s7 _ => mo - (intOf s7).toNat)
    case atStart => exact ⟨0, by omega, rfl, by simp, Below.refl _ _⟩
    case round =>
      obtain ⟨f, hf, rfl, hpre, hbl⟩ := hrel
      have HP := Lib.hid hpre
      have HBL := Lib.hid hbl
      clear hpre
      by_cases hlt : f < mo
      · obtain ⟨bA, offA, rfl, _, _, hcA⟩ := (HA.out _ hbl).cells HN.out (by omega)
        obtain ⟨bB, offB, rfl, _, _, hcB⟩ := (HB.out _ hbl).cells HM.out (by omega)
        have c0 := hcA f (by omega)
        have c1 := hcB f (by omega)
        obtain ⟨x, hx⟩ : ∃ x, a.getD f 0 = x := ⟨_, rfl⟩
        obtain ⟨y, hy⟩ : ∃ y, b.getD f 0 = y := ⟨_, rfl⟩
        rw [hx] at c0
        rw [hy] at c1
        have g1 : (0 : Int) ≤ (f : Int) := by omega
        have g2 : (f : Int) < (N : Int) := by omega
        have g3 : (f : Int) < (M : Int) := by omega
        have HX := Lib.hid hx
        have HY := Lib.hid hy
        clear hcA hcB hbl hx hy
        by_cases he : x = y
        · subst he
          go_wp2_with fail
          go_quiet (fail)
          go_wp2_with fail
          exact ⟨⟨f + 1, by omega, by go_num, take_more HP.out (by rw [HN.out]; omega) (by rw [HM.out]; omega) (by rw [HX.out, HY.out]), below_drewN' HBL.out _⟩, by simp [intOf]; omega⟩
        · have hne : ((x : Int) == (y : Int)) = false := beq_eq_false_iff_ne.2 (by omega)
          go_wp2_with fail
          go_quiet (fail)
          go_wp2_with fail
          go_meet
          case rel => exact ⟨f, by omega, rfl, HP.out, below_drewN' HBL.out _⟩
      · obtain rfl : mo = f := by omega
        clear hbl
        go_wp2_with fail
        go_quiet (fail)
        go_wp2_with fail
        go_meet
        case rel => exact ⟨mo, by omega, rfl, HP.out, below_drewN' HBL.out _⟩
  case rest =>
    obtain ⟨f, hf, rfl, hpre, hbl⟩ := hcut
    have HP := Lib.hid hpre
    have HBL := Lib.hid hbl
    clear hpre hbl
    obtain ⟨d, hd⟩ : ∃ d, f + d = mo := ⟨mo - f, by omega⟩
    have hdw : IntKind.i64.wrap ((mo : Int) - (f : Int)) = (d : Int) := by
      rw [IntKind.wrap_i64]
      omega
    go_upto_block 2 with fail
    go_cut [8] from 40 to 65 (fun s8 wx => ∃ g : Nat, g ≤ d ∧ s8 = .int .i64 g ∧ a.drop (N - g) = b.drop (M - g) ∧ Below w.heap.size w wx)
    case first =>
      go_wp2_with fail
      go_loopw [8] (fun s8 wr => ∃ g : Nat, g ≤ d ∧ s8 = .int .i64 g ∧ a.drop (N - g) = b.drop (M - g) ∧ Below w.heap.size w wr) (fun s8 _ => d - (intOf s8).toNat)
      case atStart => exact ⟨0, by omega, rfl, by rw [Nat.sub_zero, Nat.sub_zero, ← HN.out, ← HM.out, List.drop_length, List.drop_length], HBL.out⟩
      case round =>
        obtain ⟨g, hg, rfl, hsuf, hbl⟩ := hrel
        have HS := Lib.hid hsuf
        have HBL2 := Lib.hid hbl
        clear hsuf
        by_cases hlt : g < d
        · obtain ⟨bA, offA, rfl, _, _, hcA⟩ := (HA.out _ hbl).cells HN.out (by omega)
          obtain ⟨bB, offB, rfl, _, _, hcB⟩ := (HB.out _ hbl).cells HM.out (by omega)
          obtain ⟨n1, hn1⟩ : ∃ n1, N = n1 + 1 := ⟨N - 1, by omega⟩
          obtain ⟨m1, hm1⟩ : ∃ m1, M = m1 + 1 := ⟨M - 1, by omega⟩
          obtain ⟨p, hp⟩ : ∃ p, g + p = n1 := ⟨n1 - g, by omega⟩
          obtain ⟨q, hq⟩ : ∃ q, g + q = m1 := ⟨m1 - g, by omega⟩
          have c0 := hcA p (by omega)
          have c1 := hcB q (by omega)
          obtain ⟨x, hx⟩ : ∃ x, a.getD p 0 = x := ⟨_, rfl⟩
          obtain ⟨y, hy⟩ : ∃ y, b.getD q 0 = y := ⟨_, rfl⟩
          rw [hx] at c0
          rw [hy] at c1
          have w1 : IntKind.i64.wrap ((N : Int) - 1) = (n1 : Int) := by
            rw [IntKind.wrap_i64]
            omega
          have w2 : IntKind.i64.wrap ((M : Int) - 1) = (m1 : Int) := by
            rw [IntKind.wrap_i64]
            omega
          have w3 : IntKind.i64.wrap ((n1 : Int) - (g : Int)) = (p : Int) := by
            rw [IntKind.wrap_i64]
            omega
          have w4 : IntKind.i64.wrap ((m1 : Int) - (g : Int)) = (q : Int) := by
            rw [IntKind.wrap_i64]
            omega
          have g0 : decide ((g : Int) < (d : Int)) = true := decide_eq_true (by omega)
          have g1 : (0 : Int) ≤ (p : Int) := by omega
          have g2 : (p : Int) < (N : Int) := by omega
          have g3 : (0 : Int) ≤ (q : Int) := by omega
          have g4 : (q : Int) < (M : Int) := by omega
          have HSTEP : Hid (x = y → a.drop (N - (g + 1)) = b.drop (M - (g + 1))) := Lib.hid (fun e => by
            have h1 := HS.out
            rw [← HN.out, ← HM.out] at h1 ⊢
            refine drop_more h1 (by rw [HN.out]; omega) (by rw [HM.out]; omega) ?_
            have e1 : a.length - 1 - g = p := by rw [HN.out]; omega
            have e2 : b.length - 1 - g = q := by rw [HM.out]; omega
            rw [e1, e2, hx, hy, e])
          clear hcA hcB hbl hx hy hn1 hm1 hp hq
          by_cases he : x = y
          · subst he
            go_wp2_with fail
            go_quiet (fail)
            go_wp2_with fail
            exact ⟨⟨g + 1, by omega, by go_num, HSTEP.out (by first | trivial | rfl), below_drewN' HBL2.out _⟩, by simp [intOf]; omega⟩
          · have hne : ((x : Int) == (y : Int)) = false := beq_eq_false_iff_ne.2 (by omega)
            go_wp2_with fail
            go_quiet (fail)
            go_wp2_with fail
            go_meet
            case rel => exact ⟨g, by omega, rfl, HS.out, below_drewN' HBL2.out _⟩
        · obtain rfl : d = g := by omega
          have g0 : decide ((d : Int) < (d : Int)) = false := decide_eq_false (by omega)
          clear hbl
          go_wp2_with fail
          go_quiet (fail)
          go_wp2_with fail
          go_meet
          case rel => exact ⟨d, by omega, rfl, HS.out, below_drewN' HBL2.out _⟩
    case rest =>
      obtain ⟨g, hg, rfl, hsuf, hbl⟩ := hcut
      have HS := Lib.hid hsuf
      have HBL2 := Lib.hid hbl
      clear hsuf hbl hdw
      obtain ⟨i0, hi, hz0, hz1, hz2⟩ := info_parts5 zinfo54
      have HI := Lib.hid hi
      have HI0 := Lib.hid hz0
      have HI1 := Lib.hid hz1
      have HI2 := Lib.hid hz2
      clear hi hz0 hz1 hz2
      go_upto_if 67 with fail
      go_cut [9] from 66 to 72 (fun s9 wx => St w (ps1 f) s9 wx)
      case first =>
        by_cases hf0 : 0 < f
        · have e : ps1 f = [(⟨0, f, []⟩, .slice none 0 0)] := if_pos hf0
          have hfd : decide ((0 : Int) < (f : Int)) = true := decide_eq_true (by omega)
          go_wp2_with (at_builtin; refine wpList_append_own_at _ rfl (.tmp 68) (.tmp 71) 24 rfl w.heap.size 54 i0 _ 3 40 Try.underlying24 HI.out HI0.out HI1.out HI2.out rfl (by decide) _ 0 [] rfl (World.ownsRow_nil _ _ _ _) ⟨wc.heap.size, 0, none⟩ 1 1 [.int .i64 0, .int .i64 (f : Int), .slice none 0 0] rfl rfl (World.news_of_block (cs := #[.int .i64 0, .int .i64 (f : Int), .slice none 0 0]) (heap_alloc_new _ _)) (by simp [Value.oneCell']) (by unfold maxLen; omega) (by omega) (by have := HBL2.out.size; simp; omega) ?_; intro v' w6 hown hgr _ hat; have HOWN := Lib.hid hown; have HGR := Lib.hid hgr; have HAT := Lib.hid hat; clear hown hgr hat)
          go_meet
          case rel =>
            rw [e]
            have hs0 : St w [] (.slice none 0 0) wc := ⟨World.ownsRow_nil _ _ _ _, fun p hp => by simp at hp, fun p hp => by simp at hp, HBL2.out⟩
            exact hs0.more (o := ⟨0, f, []⟩) (dv := .slice none 0 0) ⟨by simp, .inl ⟨rfl, rfl⟩⟩ (fun _ _ _ _ e => by cases e) HOWN.out HGR.out HAT.out
        · have e : ps1 f = [] := if_neg hf0
          have hfd : decide ((0 : Int) < (f : Int)) = false := decide_eq_false (by omega)
          go_wp2_with fail
          go_meet
          case rel =>
            rw [e]
            exact ⟨World.ownsRow_nil _ _ _ _, fun p hp => by simp at hp, fun p hp => by simp at hp, HBL2.out⟩
      case rest =>
        have HST := Lib.hid hcut
        have hmn := HMO.out
        have HFR := Lib.hid (HB.out _ hcut.bl)
        clear hcut
        go_upto_region 13 with fail
        go_cut [10] from 73 to 79 (fun s10 wx => wc = wx ∧ ∃ X cx, s10 = .slice X (M - g - f) cx ∧ By wx (.slice X (M - g - f) cx) ((b.drop f).take (M - g - f)))
        case first =>
          by_cases hM0 : M = 0
          · subst hM0
            obtain rfl : f = 0 := by omega
            obtain rfl : g = 0 := by omega
            have hbn : b = [] := List.eq_nil_of_length_eq_zero HM.out
            have hcases : (B = none ∧ cb = 0) ∨ ∃ bB offB, B = some ⟨bB, offB, none⟩ := by
              rcases HFR.out.2 with ⟨e, _⟩ | ⟨bB, offB, c', e, _⟩
              · cases e
                exact .inl ⟨rfl, rfl⟩
              · injection e with e1 e2 e3
                exact .inr ⟨bB, offB, e1⟩
            have hz : ∀ X cx, By wc (.slice X 0 cx) b → By wc (.slice X (0 - 0 - 0) cx) ((b.drop 0).take (0 - 0 - 0)) := fun X cx h => by
              rw [hbn] at h ⊢
              simpa using h
            have HZ := Lib.hid (hz B cb HFR.out)
            clear hz
            rcases hcases with ⟨rfl, rfl⟩ | ⟨bB, offB, rfl⟩
            · go_wp2_with fail
              go_meet
              case rel => exact ⟨rfl, _, _, rfl, HZ.out⟩
            · have f2 : (0 : Int) ≤ (cb : Int) := by omega
              by_cases hcf : cb = 0
              · subst hcf
                go_wp2_with fail
                go_meet
                case rel => exact ⟨rfl, _, _, rfl, HZ.out⟩
              · have hcf3 : 0 < cb := by omega
                go_wp2_with fail
                go_meet
                case rel => exact ⟨rfl, _, _, rfl, HZ.out⟩
          · obtain ⟨bB, offB, rfl, hcb, _, hcB⟩ := HFR.out.cells HM.out (by omega)
            have hpc : By wc (.slice (some ⟨bB, offB + f, none⟩) (M - g - f) (cb - f)) ((b.drop f).take (M - g - f)) := piece_by HFR.out HM.out (by omega)
            have HPC := Lib.hid hpc
            have f0 : (0 : Int) ≤ (f : Int) := by omega
            have f1 : (f : Int) ≤ (M : Int) - (g : Int) := by omega
            have f2 : (M : Int) - (g : Int) ≤ (cb : Int) := by omega
            clear hcB hpc
            by_cases hcf : cb = f
            · subst hcf
              have hpe : By wc (.slice (some ⟨bB, offB, none⟩) (M - g - cb) 0) ((b.drop cb).take (M - g - cb)) := by
                have e0 : M - g - cb = 0 := by omega
                rw [e0]
                exact ⟨fun x hx => by simp at hx, .inr ⟨bB, offB, 0, rfl, by simp, by unfold maxLen; omega, by have := HFR.out.lt rfl; exact this, fun j hj => absurd hj (by simp)⟩⟩
              have HPE := Lib.hid hpe
              clear hpe
              go_wp2_with fail
              go_meet
              case rel => exact ⟨rfl, _, _, rfl, HPE.out⟩
            · have hcf2 : ¬ ((cb : Int) = (f : Int)) := by omega
              have hcf3 : f < cb := by omega
              go_wp2_with fail
              go_meet
              case rel => exact ⟨rfl, _, _, rfl, HPC.out⟩
        case rest =>
          obtain ⟨rfl, X, cx, rfl, hby⟩ := hcut
          have HBF := Lib.hid hby
          clear hby
          have hfl : ((b.drop f).take (M - g - f)).length = M - g - f := by have := HM.out; simp; omega
          have HFL := Lib.hid hfl
          clear hfl
          obtain ⟨k, hk⟩ : ∃ k, M - g - f = k := ⟨_, rfl⟩
          rw [hk] at HBF HFL ⊢
          go_upto_if 82 with fail
          go_cut [9] from 73 to 88 (fun s9 wx => ∃ ms, Mid b f g M ms ∧ St w (ps1 f ++ ms) s9 wx)
          case first =>
            by_cases hk0 : k = 0
            · have hkd : decide ((0 : Int) < (k : Int)) = false := decide_eq_false (by omega)
              go_wp2_with fail
              go_meet
              case rel => exact ⟨[], .inl ⟨rfl, by omega⟩, by rw [List.append_nil]; exact HST.out⟩
            · have hkd : decide ((0 : Int) < (k : Int)) = true := decide_eq_true (by omega)
              have HCL := Lib.hid (clone_any X k cx _ wc HBF.out HFL.out (by omega) (by omega))
              have hpl : (ps1 f).length ≤ 1 := by
                unfold ps1
                split <;> simp
              generalize hps : ps1 f = pp at *
              go_wp2_with (first
                | (go_at_call 55; refine HCL.out.mono ?_; rintro e w5 ⟨D, cd, rfl, hbd, hfar, hb5⟩; have HBD := Lib.hid hbd; have HFAR := Lib.hid hfar; have HS5 := Lib.hid (HST.out.below hb5); clear hbd hfar hb5)
                | (at_builtin; refine wpList_append_own_at _ rfl (.tmp 83) (.tmp 87) 24 rfl w.heap.size 54 i0 _ 3 40 Try.underlying24 HI.out HI0.out HI1.out HI2.out rfl (by decide) _ pp.length (ocs pp) rfl (HS5.out.row.alloc _) ⟨w5.heap.size, 0, none⟩ 1 1 [.int .i64 0, .int .i64 0, .slice D k cd] rfl rfl (World.news_of_block (cs := #[.int .i64 0, .int .i64 0, .slice D k cd]) (heap_alloc_new _ _)) (by simp [Value.oneCell']) (by unfold maxLen; omega) (by omega) (by have := HS5.out.bl.size; simp; omega) ?_; intro v' w6 hown hgr _ hat; have HOWN := Lib.hid hown; have HGR := Lib.hid hgr; have HAT := Lib.hid hat; clear hown hgr hat))
              go_meet
              case rel =>
                refine ⟨[(⟨0, 0, (b.drop f).take (M - g - f)⟩, .slice D k cd)], .inr ⟨D, k, cd, rfl, by omega, hk.symm⟩, ?_⟩
                refine HS5.out.more (o := ⟨0, 0, (b.drop f).take (M - g - f)⟩) (dv := .slice D k cd) (by rw [hk]; exact HBD.out) (fun b' off' n' c' e e2 => ?_) HOWN.out HGR.out HAT.out
                injection e with e1 _ _
                have h1 := HFAR.out _ e1
                have h2 := (HST.out.row.lt _ e2).2
                simp only at h1
                omega
          case rest =>
            obtain ⟨ms, hmid, hst2⟩ := hcut
            have HMID := Lib.hid hmid
            have HST2 := Lib.hid hst2
            have hpl : (ps1 f ++ ms).length ≤ 2 := by
              have e1 : (ps1 f).length ≤ 1 := by
                unfold ps1
                split <;> simp
              have e2 : ms.length ≤ 1 := by
                rcases hmid with ⟨rfl, _⟩ | ⟨B, k, cc, rfl, _⟩ <;> simp
              simp
              omega
            clear hmid hst2
            by_cases hg0 : 0 < g
            · have e3 : ps3 N g = [(⟨N - g, g, []⟩, .slice none 0 0)] := if_pos hg0
              have HE3 := Lib.hid e3
              have hgd : decide ((0 : Int) < (g : Int)) = true := decide_eq_true (by omega)
              clear e3
              generalize hpp : ps1 f ++ ms = pp at *
              obtain ⟨ng, hng⟩ : ∃ ng, g + ng = N := ⟨N - g, by omega⟩
              have hngw : (N : Int) - (g : Int) = (ng : Int) := by omega
              have HNG := Lib.hid hng
              go_wp2_with (at_builtin; refine wpList_append_own_at _ rfl (.tmp 91) (.tmp 98) 24 rfl w.heap.size 54 i0 _ 3 40 Try.underlying24 HI.out HI0.out HI1.out HI2.out rfl (by decide) _ pp.length (ocs pp) rfl (HST2.out.row.alloc _) ⟨wc.heap.size, 0, none⟩ 1 1 [.int .i64 (ng : Int), .int .i64 (g : Int), .slice none 0 0] rfl rfl (World.news_of_block (cs := #[.int .i64 (ng : Int), .int .i64 (g : Int), .slice none 0 0]) (heap_alloc_new _ _)) (by simp [Value.oneCell']) (by unfold maxLen; omega) (by omega) (by have := HST2.out.bl.size; simp; omega) ?_; intro v' w6 hown hgr _ hat; have HOWN := Lib.hid hown; have HGR := Lib.hid hgr; have HAT := Lib.hid hat; clear hown hgr hat)
              have hst3 : St w (pp ++ [(⟨ng, g, []⟩, .slice none 0 0)]) v' w6 := HST2.out.more (o := ⟨ng, g, []⟩) (dv := .slice none 0 0) ⟨by simp, .inl ⟨rfl, rfl⟩⟩ (fun _ _ _ _ e => by cases e) HOWN.out HGR.out HAT.out
              have eng : N - g = ng := by have := HNG.out; omega
              obtain ⟨A', k', c', os, vs, rfl, h1, h2, h3, h4⟩ := fin_res hst3 (ms := ms) (f := f) (g := g) (N := N) (M := M) (a := a) (b := b) (by rw [HE3.out, hpp, eng]) HN.out HM.out HP.out HS.out (by omega) (by omega) HMID.out
              have HR1 := Lib.hid h1
              have HR2 := Lib.hid h2
              have HR4 := Lib.hid h4
              have HBF2 := Lib.hid hst3.bl
              clear h1 h2 h4 hst3
              go_wp2_with fail
              go_ret2
              exact ⟨A', k', c', os, vs, rfl, HR1.out, HR2.out, h3, HR4.out, HBF2.out⟩
            · have e3 : ps3 N g = [] := if_neg hg0
              have hgd : decide ((0 : Int) < (g : Int)) = false := decide_eq_false (by omega)
              obtain ⟨A', k', c', os, vs, rfl, h1, h2, h3, h4⟩ := fin_res HST2.out (ms := ms) (f := f) (g := g) (N := N) (M := M) (a := a) (b := b) (by rw [e3, List.append_nil]) HN.out HM.out HP.out HS.out (by omega) (by omega) HMID.out
              have HR1 := Lib.hid h1
              have HR2 := Lib.hid h2
              have HR4 := Lib.hid h4
              have HBF2 := Lib.hid HST2.out.bl
              clear h1 h2 h4 e3
              go_wp2_with fail
              go_ret2
              exact ⟨A', k', c', os, vs, rfl, HR1.out, HR2.out, h3, HR4.out, HBF2.out⟩

end Go.Proofs.Ytgaliinjjonlmaa.Dt
