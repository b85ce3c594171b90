import Derived.Test.YtgaliinjjonlmaaDtRd3
import Derived.Test.YtgaliinjjonlmaaDtWh
namespace Go.Proofs.Ytgaliinjjonlmaa.Dt
open Go.RowKit
open Go.Proofs.Ytgaliinjjonlmaa.Tp
set_option linter.unusedVariables false

def Ok2 (o : O) : Prop := (o.f = 0 ∧ o.s = 0 ∧ 1 ≤ o.d.length ∧ o.d.length ≤ 1000) ∨ (1 ≤ o.s ∧ o.s ≤ 60000 ∧ o.f ≤ 60000 ∧ o.d = [])

theorem by_more {w : World} {A : Option Addr} {L c n : Nat} {xs ys : List Nat} (h : By w (.slice A L c) (xs ++ ys)) (hn : xs.length = n) (hx : 1 ≤ n) : ∃ b off, A = some ⟨b, off, none⟩ ∧ L = n + ys.length ∧ L ≤ c ∧ By w (.slice (if c = n then some ⟨b, off, none⟩ else some ⟨b, off + n, none⟩) (L - n) (c - n)) ys := by
  subst hn
  rcases h.2 with ⟨e, e2⟩ | ⟨b, off, c', e, h1, h2, h3, _⟩
  · have := congrArg List.length e2
    rw [List.length_append] at this
    simp only [List.length_nil] at this
    omega
  · cases e
    have hp := piece_by (f := xs.length) (s := ys.length) h rfl (by simp)
    have e1 : ((xs ++ ys).drop xs.length).take ys.length = ys := by simp
    rw [e1] at hp
    have e2 : (xs ++ ys).length - xs.length = ys.length := by simp
    refine ⟨b, off, rfl, by simp, h1, ?_⟩
    rw [e2]
    by_cases hc : c = xs.length
    · rw [if_pos hc]
      have hy : ys = [] := by
        rw [List.length_append] at h1
        exact List.eq_nil_of_length_eq_zero (by omega)
      subst hy
      exact ⟨by simp, .inr ⟨b, off, c - xs.length, rfl, by simp, by omega, h3, fun j hj => by simp at hj⟩⟩
    · rw [if_neg hc]
      exact hp

set_option maxRecDepth 100000 in
set_option maxHeartbeats 2000000 in
theorem parse_any (A : Option Addr) (L c : Nat) (os : List O) (w : World) (h : By w (.slice A L c) (os.flatMap fmo)) (hos : ∀ o ∈ os, Ok2 o) (hL : L ≤ 50000) (hn : os.length ≤ 200) :
    Calls Try.prog 29 #[.slice A L c] w fun e w' => ∃ ps v, e = .returned (.tuple #[v, .int .i64 0]) ∧ ps.map (·.1) = os ∧ St w ps v w' ∧ ∀ p ∈ ps, 1 ≤ p.1.s → p.2 = .slice none 0 0 := by
  obtain ⟨i0, hi, hz0, hz1, hz2⟩ := info_parts5 zinfo54
  have HI := Lib.hid hi
  have HI0 := Lib.hid hz0
  have HI1 := Lib.hid hz1
  have HI2 := Lib.hid hz2
  have HBY := Lib.hid h
  have HOS := Lib.hid hos
  clear hi hz0 hz1 hz2 h hos
  go_enter Try.func29, Try.ntmps29
  go_wp2_with fail
  go_loopw [0, 4] (fun bv v wr => ∃ (ps : List (O × Value)) (todo : List O) (A' : Option Addr) (L' c' : Nat), bv = .slice A' L' c' ∧ os = ps.map (·.1) ++ todo ∧ By w bv (todo.flatMap fmo) ∧ L' ≤ 50000 ∧ St w ps v wr ∧ ∀ p ∈ ps, 1 ≤ p.1.s → p.2 = .slice none 0 0) (fun bv _ _ => match bv with | .slice _ l _ => l | _ => 0)
  case atStart => exact ⟨[], os, A, L, c, rfl, by simp, HBY.out, hL, ⟨World.ownsRow_nil _ _ _ _, fun p hp => by simp at hp, fun p hp => by simp at hp, Below.refl _ _⟩, fun p hp => by simp at hp⟩
  case round =>
    obtain ⟨ps, todo, A', L', c', rfl, hos, hby, hL', hst, hnn⟩ := hrel
    have HNN := Lib.hid hnn
    clear hnn
    obtain ⟨Av, cv, ev, _⟩ := hst.olies
    subst ev
    have HST := Lib.hid hst
    cases todo with
    | nil =>
      obtain ⟨A2, c2, e⟩ := hby.form
      cases e
      have HE := Lib.hid hos
      clear hst hby hos
      go_wp2
      go_ret2
      exact ⟨ps, _, rfl, by have := HE.out; simpa using this.symm, HST.out, HNN.out⟩
    | cons o rest =>
      have hlen : ps.length < 200 := by have := congrArg List.length hos; simp at this; omega
      have hok := HOS.out o (by rw [hos]; simp)
      rw [List.flatMap_cons] at hby
      have HEQ := Lib.hid hos
      have hlen2 : ((ps.length : Int) == 200) = false := beq_eq_false_iff_ne.2 (by omega)
      obtain ⟨F, S, d⟩ := o
      rcases hok with ⟨h2, h3, h4, h5⟩ | ⟨hS, hS2, hF, h4⟩
      · simp only at h2 h3 h4 h5
        subst h2
        subst h3
        have ef : fmo ⟨0, 0, d⟩ = [0] ++ num d.length ++ d := if_neg (by simp)
        rw [ef] at hby
        have el : ([0] ++ num d.length ++ d).length = 4 + d.length := by simp [num]; omega
        obtain ⟨b, off, rfl, hLL, hcap, hnext⟩ := by_more hby el (by omega)
        have HRD := Lib.hid (read_ins b off L' c' d.length d (rest.flatMap fmo) wr (hby.below hst.bl) rfl h4 h5 (by omega))
        have HNX := Lib.hid hnext
        have p0 : (0 : Int) < (L' : Int) := by omega
        have p1 : (4 : Int) + (d.length : Int) ≤ (L' : Int) := by omega
        have HLL := Lib.hid hLL
        clear hnext hby hst hos ef el hLL
        go_wp2_with fail
        refine HRD.out.mono ?_
        rintro e w3 ⟨B, cc, rfl, hbyd, hfar, hb3⟩
        have HS3 := Lib.hid (HST.out.below hb3)
        have HBD := Lib.hid hbyd
        have HFA := Lib.hid hfar
        clear hbyd hfar hb3
        have HS4 := Lib.hid (HS3.out.below (box_below w3 (.cells #[.int .i64 0, .int .i64 0, .slice B d.length cc] 54)))
        have HBD4 := Lib.hid (HBD.out.below (box_below w3 (.cells #[.int .i64 0, .int .i64 0, .slice B d.length cc] 54)))
        go_wp2_with (at_builtin; refine wpList_append_own_at _ rfl (.tmp 27) (.tmp 29) 24 rfl w.heap.size 54 i0 _ 3 40 Try.underlying24 HI.out HI0.out HI1.out HI2.out rfl (by decide) _ ps.length (ocs ps) rfl (HS4.out.row.alloc _) ⟨w3.heap.size + 1, 0, none⟩ 1 1 [.int .i64 0, .int .i64 0, .slice B d.length cc] rfl rfl (World.news_of_block (cs := #[.int .i64 0, .int .i64 0, .slice B d.length cc]) (by have := heap_alloc_new (w3.alloc (.cells #[.int .i64 0, .int .i64 0, .slice B d.length cc] 54)) (.cells #[.int .i64 0, .int .i64 0, .slice B d.length cc] 54); simpa using this)) (by simp [Value.oneCell']) (by unfold maxLen; omega) (by omega) (by simp; have := HS4.out.bl.size; simp at this; omega) ?_; intro v' w6 hown hgr _ hat; have HOWN := Lib.hid hown; have HGR := Lib.hid hgr; have HAT := Lib.hid hat; clear hown hgr hat)
        refine ⟨⟨ps ++ [(⟨0, 0, d⟩, .slice B d.length cc)], rest, _, _, _, rfl, ?_, HNX.out, by omega, HS4.out.more (o := ⟨0, 0, d⟩) (dv := .slice B d.length cc) HBD4.out ?_ HOWN.out HGR.out HAT.out, fun p hp hs => ?_⟩, ?_⟩
        · rw [HEQ.out]
          simp
        · intro b' off' n' c2 e e2
          injection e with e1 _ _
          have h1 := HFA.out _ e1
          simp at h1
          have h2 := (HST.out.row.lt _ e2).2
          omega
        · rcases List.mem_append.1 hp with hp | hp
          · exact HNN.out p hp hs
          · have := List.mem_singleton.1 hp
            subst this
            simp at hs
        · show L' - (4 + d.length) < L'
          omega
      · simp only at hS hS2 hF h4
        subst h4
        have ef : fmo ⟨F, S, []⟩ = [1] ++ num F ++ num S := if_pos hS
        rw [ef] at hby
        have el : ([1] ++ num F ++ num S).length = 7 := rfl
        obtain ⟨b, off, rfl, hLL, hcap, hnext⟩ := by_more hby el (by omega)
        have HRD := Lib.hid (read_cpy b off L' c' F S (rest.flatMap fmo) wr (hby.below hst.bl) hF hS hS2 (by omega))
        have HNX := Lib.hid hnext
        have p0 : (0 : Int) < (L' : Int) := by omega
        have p1 : (7 : Int) ≤ (L' : Int) := by omega
        have HLL := Lib.hid hLL
        clear hnext hby hst hos ef el hLL
        go_wp2_with fail
        refine HRD.out.mono ?_
        rintro e w3 ⟨rfl, hb3⟩
        have HS3 := Lib.hid (HST.out.below hb3)
        clear hb3
        have HS4 := Lib.hid (HS3.out.below (box_below w3 (.cells #[.int .i64 (F : Int), .int .i64 (S : Int), .slice none 0 0] 54)))
        go_wp2_with (at_builtin; refine wpList_append_own_at _ rfl (.tmp 27) (.tmp 29) 24 rfl w.heap.size 54 i0 _ 3 40 Try.underlying24 HI.out HI0.out HI1.out HI2.out rfl (by decide) _ ps.length (ocs ps) rfl (HS4.out.row.alloc _) ⟨w3.heap.size + 1, 0, none⟩ 1 1 [.int .i64 (F : Int), .int .i64 (S : Int), .slice none 0 0] rfl rfl (World.news_of_block (cs := #[.int .i64 (F : Int), .int .i64 (S : Int), .slice none 0 0]) (by have := heap_alloc_new (w3.alloc (.cells #[.int .i64 (F : Int), .int .i64 (S : Int), .slice none 0 0] 54)) (.cells #[.int .i64 (F : Int), .int .i64 (S : Int), .slice none 0 0] 54); simpa using this)) (by simp [Value.oneCell']) (by unfold maxLen; omega) (by omega) (by simp; have := HS4.out.bl.size; simp at this; omega) ?_; intro v' w6 hown hgr _ hat; have HOWN := Lib.hid hown; have HGR := Lib.hid hgr; have HAT := Lib.hid hat; clear hown hgr hat)
        refine ⟨⟨ps ++ [(⟨F, S, []⟩, .slice none 0 0)], rest, _, _, _, rfl, ?_, HNX.out, by omega, HS4.out.more (o := ⟨F, S, []⟩) (dv := .slice none 0 0) ⟨by simp, .inl ⟨rfl, rfl⟩⟩ (fun _ _ _ _ e => by cases e) HOWN.out HGR.out HAT.out, fun p hp hs => ?_⟩, ?_⟩
        · rw [HEQ.out]
          simp
        · rcases List.mem_append.1 hp with hp | hp
          · exact HNN.out p hp hs
          · have := List.mem_singleton.1 hp
            subst this
            rfl
        · show L' - 7 < L'
          omega

end Go.Proofs.Ytgaliinjjonlmaa.Dt
