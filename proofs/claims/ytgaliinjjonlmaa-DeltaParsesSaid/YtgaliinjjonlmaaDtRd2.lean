import Derived.Test.YtgaliinjjonlmaaDtRd
namespace Go.Proofs.Ytgaliinjjonlmaa.Dt
open Go.RowKit
open Go.Proofs.Ytgaliinjjonlmaa.Tp
set_option linter.unusedVariables false

theorem results_cell_tmp2 {fn : Func} {p u u2 : Tmp} {ty : TypeId} (h : fn.results = #[.cell p ty, .tmp u, .tmp u2]) (tmps : Array Value) (P : Program) (w : World) :
    (results fn tmps).run P w =
      ((asAddr (tmps.getD p undef)).run P w).andThen fun a w₁ => ((loadVar ty a).run P w₁).andThen fun v w₂ => .ok (.tuple #[v, tmps.getD u undef, tmps.getD u2 undef]) w₂ := by
  simp only [results, h]
  simp [Sem.run_bind, Result.andThen]

theorem results_cell_row3 {P : Program} {fn : Func} {p u u2 : Tmp} {ty : TypeId} (h : fn.results = #[.cell p ty, .tmp u, .tmp u2]) (tmps : Array Value) (w : World) (g : Nat) (t : TypeId) (cs : Array Value) (fr : Nat × Nat) (d : TypeDesc)
    (hp : tmps.getD p undef = .pointer (some ⟨g, 0, none⟩)) (hg : w.heap[g]? = some (.cells cs t fr))
    (hu : P.underlying ty = some d) (hd : (match d with | .struct _ | .array _ _ => true | _ => false) = true) (hi : (P.info? ty).map (·.size) = some cs.size) :
    (results fn tmps).run P w = .ok (.tuple #[.agg cs, tmps.getD u undef, tmps.getD u2 undef]) w := by
  rw [results_cell_tmp2 h, hp]
  simp [asAddr, run_loadVar_row w g t ty cs fr d hg hu hd hi]

theorem info54 (u v x : Value) : (Try.prog.info? 54).map (·.size) = some (#[u, v, x] : Array Value).size := by
  have e : (Try.prog.info? 54).map (·.size) = some 3 := by kernel_rfl
  rw [e]
  rfl

theorem rowFacts3 {w : World} {g t : Nat} {x y z : Value} (h : w.heap[g]? = some (.cells #[x, y, z] t (0, 0))) : w.cell? ⟨g, 0, none⟩ = some x ∧ w.cell? ⟨g, 1, none⟩ = some y ∧ w.cell? ⟨g, 2, none⟩ = some z ∧ w.frozen? ⟨g, 0, none⟩ = false ∧ w.frozen? ⟨g, 1, none⟩ = false ∧ w.frozen? ⟨g, 2, none⟩ = false :=
  ⟨by rw [cell_of_row _ _ _ _ _ _ h]; rfl, by rw [cell_of_row _ _ _ _ _ _ h]; rfl, by rw [cell_of_row _ _ _ _ _ _ h]; rfl, frozen_of_row _ _ _ _ _ h, frozen_of_row _ _ _ _ _ h, frozen_of_row _ _ _ _ _ h⟩

theorem By.set {w : World} {v : Value} {bs : List Nat} {R i : Nat} (h : By w v bs) (hn : ∀ b off n c, v = .slice (some ⟨b, off, none⟩) n c → R ≠ b) (x : Value) : By (w.setCell ⟨R, i, none⟩ x) v bs :=
  h.grown (row := some R) ⟨rfl, rfl, rfl, by simp [World.setCell], fun k hk hne => heap_setCell_other _ _ _ _ (fun e => hne (by rw [e]))⟩ (fun b off n c e e2 => hn b off n c e (Option.some.inj e2))

set_option maxRecDepth 100000 in
set_option maxHeartbeats 2000000 in
theorem read_ins (b off L c K : Nat) (d rest : List Nat) (w : World) (h : By w (.slice (some ⟨b, off, none⟩) L c) ([0] ++ num K ++ d ++ rest)) (hl : d.length = K) (hk : 1 ≤ K) (hk2 : K ≤ 1000) (hL : L ≤ 60000) :
    Calls Try.prog 61 #[.slice (some ⟨b, off, none⟩) L c] w fun e w' => ∃ B cc, e = .returned (.tuple #[.agg #[.int .i64 0, .int .i64 0, .slice B K cc], .int .i64 ((4 + K : Nat) : Int), .bool true]) ∧ By w' (.slice B K cc) d ∧ (∀ a, B = some a → w.heap.size ≤ a.block) ∧ Below w.heap.size w w' := by
  obtain ⟨hlen, hcap, hlt⟩ : L = 4 + K + rest.length ∧ L ≤ c ∧ b < w.heap.size := by
    rcases h.2 with ⟨e, _⟩ | ⟨b', off', c', e, h1, _, h3, _⟩
    · cases e
    · cases e
      refine ⟨by simp [num, hl]; omega, h1, h3⟩
  have hB1 : Below w.heap.size w (w.alloc (.cells #[.slice (some ⟨b, off, none⟩) L c] 23)) := box_below _ _
  have hB2 := hB1.trans ((box_below (w.alloc (.cells #[.slice (some ⟨b, off, none⟩) L c] 23)) (.cells #[.int .i64 0, .int .i64 0, .slice none 0 0] 54)).mono hB1.size)
  have hG : ((w.alloc (.cells #[.slice (some ⟨b, off, none⟩) L c] 23)).alloc (.cells #[.int .i64 0, .int .i64 0, .slice none 0 0] 54)).heap[w.heap.size]? = some (.cells #[.slice (some ⟨b, off, none⟩) L c] 23 (0, 0)) :=
    ((box_below _ _).block w.heap.size (by simp)).trans (heap_alloc_new w _)
  have hR := heap_alloc_new (w.alloc (.cells #[.slice (some ⟨b, off, none⟩) L c] 23)) (.cells #[.int .i64 0, .int .i64 0, .slice none 0 0] 54)
  generalize hW : (w.alloc (.cells #[.slice (some ⟨b, off, none⟩) L c] 23)).alloc (.cells #[.int .i64 0, .int .i64 0, .slice none 0 0] 54) = W at *
  have hby := h.below hB2
  have hcs : ∀ j, j < L → W.cell? ⟨b, off + j, none⟩ = some (.int .u8 ((([0] ++ num K ++ d ++ rest).getD j 0 : Nat) : Int)) := by
    rcases hby.2 with ⟨e, _⟩ | ⟨b', off', c', e, _, _, _, h4⟩
    · cases e
    · cases e
      exact h4
  have q0 : W.cell? ⟨b, off, none⟩ = some (.int .u8 0) := by have := hcs 0 (by omega); simpa using this
  have q1 := hcs 1 (by omega)
  have q2 := hcs 2 (by omega)
  have q3 := hcs 3 (by omega)
  have hp := piece_by (f := 4) (s := K) hby (by simp [num, hl]; omega) (by omega)
  have ed : (([0] ++ num K ++ d ++ rest).drop 4).take K = d := by simp [num, ← hl]
  rw [ed] at hp
  have hn := readnum_any w.heap.size b off L c _ _ _ 1 W (cell_of_one hG) (by omega) (by omega) q1 q2 q3 (by simp [num]; omega) (by simp [num]; omega) (by simp [num]; omega)
  have hv : ([0] ++ num K ++ d ++ rest).getD 1 0 * 65536 + ([0] ++ num K ++ d ++ rest).getD 2 0 * 256 + ([0] ++ num K ++ d ++ rest).getD 3 0 = K := by simp [num]; omega
  rw [hv] at hn
  have g0 := cell_of_one hG
  have HN := Lib.hid hn
  have HC := Lib.hid (fun W' (hw : Below W.heap.size W W') => clone_any (some ⟨b, off + 4, none⟩) K (c - 4) d W' (hp.below hw) hl hk hk2)
  have HG := Lib.hid hG
  have hR' : W.heap[w.heap.size + 1]? = some (.cells #[.int .i64 0, .int .i64 0, .slice none 0 0] 54 (0, 0)) := by simpa using hR
  have HR := Lib.hid hR'
  have HB2 := Lib.hid hB2
  have f1 : (1 : Int) ≤ (K : Int) := by omega
  have f2 : (4 : Int) + (K : Int) ≤ (c : Int) := by omega
  have f3 : (K : Int) ≤ (L : Int) - 4 := by omega
  have f4 : (0 : Int) < (L : Int) := by omega
  have f5 : (4 : Int) ≤ (L : Int) := by omega
  clear hlen hcap h hB1 hR hR' hG hby hcs q1 q2 q3 ed hn hv hB2 hp
  rcases Nat.lt_or_ge L 7 with h7 | h7
  · have f7 : decide ((7 : Int) ≤ (L : Int)) = false := decide_eq_false (by omega)
    subst hW
    go_enter Try.func61, Try.ntmps61
    go_wp2_with fail
    refine HN.out.mono ?_
    rintro e w3 ⟨rfl, hb3⟩
    have g3 := cell_of_one ((hb3.block w.heap.size (lt_of_block HG.out)).trans HG.out)
    have hr3 := (hb3.block (w.heap.size + 1) (lt_of_block HR.out)).trans HR.out
    have HR3 := Lib.hid hr3
    have HB3 := Lib.hid hb3
    clear g0 q0 hr3 hb3
    go_wp2_with fail
    refine (HC.out _ HB3.out).mono ?_
    rintro e w4 ⟨B, cc, rfl, hby, hfar, hb4⟩
    have hr4 := (hb4.block (w.heap.size + 1) (lt_of_block HR3.out)).trans HR3.out
    obtain ⟨c0, c1, c2, z0, z1, z2⟩ := rowFacts3 hr4
    have HR4 := Lib.hid hr4
    have HBY := Lib.hid hby
    have HFAR := Lib.hid hfar
    have HB4 := Lib.hid hb4
    clear hr4 hby hfar hb4
    go_wp2_with fail
    refine bodyPost_ret (v := .tuple #[.agg #[.int .i64 0, .int .i64 0, .slice B K cc], .int .i64 (4 + (K : Int)), .bool true]) (results_cell_row3 (fn := Try.f61) (p := 2) (u := 3) (u2 := 4) rfl _ _ (w.heap.size + 1) 54 #[.int .i64 0, .int .i64 0, .slice B K cc] (0, 0) _ rfl (heap_setCell_same _ _ _ _ _ _ (heap_setCell_same _ _ _ _ _ _ (heap_setCell_same _ _ _ _ _ _ HR4.out))) Try.underlying54 rfl (info54 _ _ _)) rfl ?_
    have hs := HB3.out.size
    have hfr : ∀ b off n c, Value.slice B K cc = .slice (some ⟨b, off, none⟩) n c → w.heap.size + 1 ≠ b := by
      intro b' off' n' c' e
      injection e with e1 _ _
      have h1 := HFAR.out _ e1
      simp at h1 hs
      omega
    have hbl := HB2.out.trans ((HB3.out.trans (HB4.out.mono HB3.out.size)).mono HB2.out.size)
    refine ⟨B, cc, by simp, ((HBY.out.set hfr _).set hfr _).set hfr _, fun a e => ?_, ((hbl.setCell (by simp) _).setCell (by simp) _).setCell (by simp) _⟩
    have h1 := HFAR.out _ e
    simp at h1 hs
    omega
  · have f7 : (7 : Int) ≤ (L : Int) := by omega
    subst hW
    go_enter Try.func61, Try.ntmps61
    go_wp2_with fail
    refine HN.out.mono ?_
    rintro e w3 ⟨rfl, hb3⟩
    have g3 := cell_of_one ((hb3.block w.heap.size (lt_of_block HG.out)).trans HG.out)
    have hr3 := (hb3.block (w.heap.size + 1) (lt_of_block HR.out)).trans HR.out
    have HR3 := Lib.hid hr3
    have HB3 := Lib.hid hb3
    clear g0 q0 hr3 hb3
    go_wp2_with fail
    refine (HC.out _ HB3.out).mono ?_
    rintro e w4 ⟨B, cc, rfl, hby, hfar, hb4⟩
    have hr4 := (hb4.block (w.heap.size + 1) (lt_of_block HR3.out)).trans HR3.out
    obtain ⟨c0, c1, c2, z0, z1, z2⟩ := rowFacts3 hr4
    have HR4 := Lib.hid hr4
    have HBY := Lib.hid hby
    have HFAR := Lib.hid hfar
    have HB4 := Lib.hid hb4
    clear hr4 hby hfar hb4
    go_wp2_with fail
    refine bodyPost_ret (v := .tuple #[.agg #[.int .i64 0, .int .i64 0, .slice B K cc], .int .i64 (4 + (K : Int)), .bool true]) (results_cell_row3 (fn := Try.f61) (p := 2) (u := 3) (u2 := 4) rfl _ _ (w.heap.size + 1) 54 #[.int .i64 0, .int .i64 0, .slice B K cc] (0, 0) _ rfl (heap_setCell_same _ _ _ _ _ _ (heap_setCell_same _ _ _ _ _ _ (heap_setCell_same _ _ _ _ _ _ HR4.out))) Try.underlying54 rfl (info54 _ _ _)) rfl ?_
    have hs := HB3.out.size
    have hfr : ∀ b off n c, Value.slice B K cc = .slice (some ⟨b, off, none⟩) n c → w.heap.size + 1 ≠ b := by
      intro b' off' n' c' e
      injection e with e1 _ _
      have h1 := HFAR.out _ e1
      simp at h1 hs
      omega
    have hbl := HB2.out.trans ((HB3.out.trans (HB4.out.mono HB3.out.size)).mono HB2.out.size)
    refine ⟨B, cc, by simp, ((HBY.out.set hfr _).set hfr _).set hfr _, fun a e => ?_, ((hbl.setCell (by simp) _).setCell (by simp) _).setCell (by simp) _⟩
    have h1 := HFAR.out _ e
    simp at h1 hs
    omega

end Go.Proofs.Ytgaliinjjonlmaa.Dt
