import Derived.Test.YtgaliinjjonlmaaDtFrame
namespace Go.Proofs.Ytgaliinjjonlmaa.Dt
open Go.RowKit
open Go.Proofs.Ytgaliinjjonlmaa.Tp
set_option linter.unusedVariables false

/-- Operations of the maker: valid for N bytes, and short. -/
def Fit (N : Nat) (p : O × Value) : Prop := VO N p.1 p.2 ∧ cnt p.1 ≤ 70

/-- Between two rounds of Ops; T is the tape. -/
structure Opm (w : World) (T N : Nat) (ps : List (O × Value)) (v : Value) (wr : World) : Prop where
  row : wr.ownsRow w.heap.size 54 3 v ps.length (ocs ps)
  by_ : ∀ p ∈ ps, By wr p.2 p.1.d
  ne : ∀ p ∈ ps, ∀ b off n c, p.2 = .slice (some ⟨b, off, none⟩) n c → v.ownBlock ≠ some b ∧ w.heap.size ≤ b
  fit : ∀ p ∈ ps, Fit N p
  gr : w.grownBy wr (some T)
  tp : TapeOk wr T

theorem tape_kept {w w' : World} {T : Nat} {row : Option Nat} (h : TapeOk w T) (hg : w.grownBy w' row) (hr : ∀ g, row = some g → T < g) : TapeOk w' T := TapeOk.kept h hg hr

theorem own_next {B e s T : Nat} {wr w1 : World} {v : Value} {k : Nat} {xs : List Value} (hT : T < B) (hrow : wr.ownsRow B e s v k xs) (hg : wr.grownBy w1 (some T)) : w1.ownsRow B e s v k xs := by
  refine hrow.kept hg ?_
  cases hv : v.ownBlock with
  | none => exact .inl rfl
  | some g =>
    refine .inr (fun e => ?_)
    have := (hrow.lt g hv).1
    cases e
    omega

theorem Opm.tape {w wr w1 : World} {T N : Nat} {ps : List (O × Value)} {v : Value} (h : Opm w T N ps v wr) (hT : T < w.heap.size) (hg : wr.grownBy w1 (some T)) (ht : TapeOk w1 T) : Opm w T N ps v w1 :=
  ⟨own_next hT h.row hg, fun p hp => (h.by_ p hp).grown hg (fun b off n c e e2 => by
    have := (h.ne p hp b off n c e).2
    have e3 := Option.some.inj e2
    omega), h.ne, h.fit, gb_trans h.gr hg, ht⟩

theorem Opm.more {w wr w3 : World} {T N : Nat} {ps : List (O × Value)} {v v' dv : Value} {o : O} {box : Obj} (h : Opm w T N ps v wr) (hT : T < w.heap.size) (hd : By wr dv o.d) (hn : ∀ b off n c, dv = .slice (some ⟨b, off, none⟩) n c → v.ownBlock ≠ some b ∧ w.heap.size ≤ b) (hf : Fit N (o, dv))
    (hown : w3.ownsRow w.heap.size 54 3 v' (ps.length + 1) (ocs ps ++ [.int .i64 (o.f : Int), .int .i64 (o.s : Int), dv])) (hg : (wr.alloc box).grownBy w3 v.ownBlock) (hat : v'.ownBlock = v.ownBlock ∨ v'.ownBlock = some (wr.alloc box).heap.size) : Opm w T N (ps ++ [(o, dv)]) v' w3 := by
  have hob : ∀ g, v.ownBlock = some g → w.heap.size ≤ g := fun g e => (h.row.lt g e).1
  have all : ∀ p ∈ ps ++ [(o, dv)], By wr p.2 p.1.d ∧ (∀ b off n c, p.2 = .slice (some ⟨b, off, none⟩) n c → v.ownBlock ≠ some b ∧ w.heap.size ≤ b) ∧ Fit N p := by
    intro p hp
    rcases List.mem_append.1 hp with hp | hp
    · exact ⟨h.by_ p hp, h.ne p hp, h.fit p hp⟩
    · have := List.mem_singleton.1 hp
      subst this
      exact ⟨hd, hn, hf⟩
  have a1 : w.grownBy (wr.alloc box) (some T) := gb_trans h.gr (World.grownBy_alloc _ _ _)
  refine ⟨by rw [ocs_snoc]; simpa using hown, fun p hp => ((all p hp).1.below (box_below wr box)).grown hg (fun b off n c e => ((all p hp).2.1 b off n c e).1), fun p hp b off n c e => ⟨?_, ((all p hp).2.1 b off n c e).2⟩, fun p hp => (all p hp).2.2,
    ⟨hg.os.trans a1.os, hg.tape.trans a1.tape, hg.output.trans a1.output, Nat.le_trans a1.size hg.size, fun i hi hne => (hg.block i (Nat.lt_of_lt_of_le hi a1.size) (fun e => by have := hob i e.symm; omega)).trans (a1.block i hi hne)⟩,
    tape_kept (tape_kept h.tp (World.grownBy_alloc wr box none) (by simp)) hg (fun g e => by have := hob g e; omega)⟩
  rcases hat with hat | hat
  · rw [hat]
    exact ((all p hp).2.1 b off n c e).1
  · rw [hat]
    intro e2
    have := (all p hp).1.lt e
    have e3 := Option.some.inj e2
    simp at e3
    omega

set_option maxRecDepth 100000 in
set_option maxHeartbeats 2000000 in
theorem ops_any (T N : Nat) (w : World) (h : TapeOk w T) (hTw : T < w.heap.size) (hN : N ≤ 60) :
    Calls Try.prog 17 #[.pointer (some ⟨T, 0, none⟩), .int .i64 (N : Int)] w fun e w' => ∃ ps v, e = .returned v ∧ ps.length ≤ 5 ∧ Opm w T N ps v w' := by
  obtain ⟨i0, hi, hz0, hz1, hz2⟩ := info_parts5 zinfo54
  have HI := Lib.hid hi
  have HI0 := Lib.hid hz0
  have HI1 := Lib.hid hz1
  have HI2 := Lib.hid hz2
  have HTK := Lib.hid h
  clear hi hz0 hz1 hz2 h
  go_enter Try.func17, Try.ntmps17
  go_wp2_with fail
  refine (next_any T 6 _ HTK.out (by omega) (by omega)).mono ?_
  rintro e w0 ⟨x, hx0, hx1, rfl, hg0, ht0⟩
  obtain ⟨k0, rfl⟩ : ∃ m : Nat, x = m := ⟨x.toNat, by omega⟩
  have HG0 := Lib.hid hg0
  have HT0 := Lib.hid ht0
  clear hg0 ht0
  go_wp2_with fail
  go_loopw [5, 6] (fun v kk wr => ∃ (k : Nat) (ps : List (O × Value)), ps.length + k ≤ k0 ∧ kk = .int .i64 k ∧ Opm w T N ps v wr) (fun _ kk _ => (intOf kk).toNat)
  case atStart => exact ⟨k0, [], by simp, rfl, World.ownsRow_nil _ _ _ _, fun p hp => by simp at hp, fun p hp => by simp at hp, fun p hp => by simp at hp, HG0.out, HT0.out⟩
  case round =>
    obtain ⟨k, ps, hk, rfl, hop⟩ := hrel
    have HOP := Lib.hid hop
    have hsz := hop.gr.size
    clear hop
    by_cases hk0 : 0 < k
    · have hkd : decide ((0 : Int) < (k : Int)) = true := decide_eq_true (by omega)
      by_cases hn0 : N = 0
      · have hnd : decide ((0 : Int) < (N : Int)) = false := decide_eq_false (by omega)
        have hN0 : (N : Int) ≤ 0 := by omega
        clear hn0
        go_wp2_with fail
        refine (between_any T 1 6 _ HOP.out.tp (by omega) (by omega) (by omega) (by omega)).mono ?_
        rintro e w4 ⟨x, hm0, hm1, rfl, hg4, ht4⟩
        obtain ⟨m, rfl⟩ : ∃ m : Nat, x = m := ⟨x.toNat, by omega⟩
        have HOP4 := Lib.hid (HOP.out.tape hTw hg4 ht4)
        have hs4 := hg4.size
        clear hg4 ht4
        go_wp2_with fail
        refine (bytes_any T m _ HOP4.out.tp (by omega) (by omega)).mono ?_
        rintro e w5 ⟨v, rfl, hrel⟩
        obtain ⟨bs, A, c, rfl, hl, hby, hfa, hg5, ht5⟩ := made_by hrel (by omega)
        have HOP5 := Lib.hid (HOP4.out.tape hTw hg5 ht5)
        have hs5 := hg5.size
        have HBY := Lib.hid hby
        have HFA := Lib.hid hfa
        have HL := Lib.hid hl
        clear hrel hl hby hfa hg5 ht5
        go_wp2_with (at_builtin; refine wpList_append_own_at _ rfl (.tmp 34) (.tmp 40) 24 rfl w.heap.size 54 i0 _ 3 40 Try.underlying24 HI.out HI0.out HI1.out HI2.out rfl (by decide) _ ps.length (ocs ps) rfl (HOP5.out.row.alloc _) ⟨w5.heap.size, 0, none⟩ 1 1 [.int .i64 0, .int .i64 0, .slice A m c] rfl rfl (World.news_of_block (cs := #[.int .i64 0, .int .i64 0, .slice A m c]) (heap_alloc_new _ _)) (by simp [Value.oneCell']) (by unfold maxLen; omega) (by omega) (by simp; omega) ?_; intro v' w6 hown hgr _ hat; have HOWN := Lib.hid hown; have HGR := Lib.hid hgr; have HAT := Lib.hid hat; clear hown hgr hat)
        obtain ⟨k1, rfl⟩ : ∃ k1, k = k1 + 1 := ⟨k - 1, by omega⟩
        refine ⟨⟨k1, _, by simp; omega, by go_num, HOP5.out.more (o := ⟨0, 0, bs⟩) (dv := .slice A m c) hTw HBY.out (fun b off n c' e => ?_) ⟨.inl ⟨rfl, rfl, A, m, c, rfl, by omega⟩, ?_⟩ HOWN.out HGR.out HAT.out⟩, by simp [intOf]⟩
        · injection e with e1 _ _
          have h1 := HFA.out _ e1
          simp only at h1
          refine ⟨fun e2 => ?_, by omega⟩
          have h2 := (HOP4.out.row.lt _ e2).2
          omega
        · have e : cnt ⟨0, 0, bs⟩ = bs.length := if_neg (by simp)
          show cnt ⟨0, 0, bs⟩ ≤ 70
          rw [e, HL.out]
          omega
      · have hnd : decide ((0 : Int) < (N : Int)) = true := decide_eq_true (by omega)
        go_wp2_with fail
        refine (next_any T 3 _ HOP.out.tp (by omega) (by omega)).mono ?_
        rintro e w1 ⟨x, hy0, hy1, rfl, hg1, ht1⟩
        obtain ⟨r, rfl⟩ : ∃ m : Nat, x = m := ⟨x.toNat, by omega⟩
        have HOP1 := Lib.hid (HOP.out.tape hTw hg1 ht1)
        have hs1 := hg1.size
        clear hg1 ht1
        by_cases hr : 0 < r
        · have hrd : decide ((0 : Int) < (r : Int)) = true := decide_eq_true (by omega)
          go_wp2_with fail
          refine (next_any T N _ HOP1.out.tp (by omega) (by omega)).mono ?_
          rintro e w2 ⟨x, hf0, hf1, rfl, hg2, ht2⟩
          obtain ⟨f, rfl⟩ : ∃ m : Nat, x = m := ⟨x.toNat, by omega⟩
          have HOP2 := Lib.hid (HOP1.out.tape hTw hg2 ht2)
          have hs2 := hg2.size
          clear hg2 ht2
          go_wp2_with fail
          refine (between_any T 1 ((N : Int) - (f : Int)) _ HOP2.out.tp (by omega) (by omega) (by omega) (by omega)).mono ?_
          rintro e w3 ⟨x, hz0, hz1, rfl, hg3, ht3⟩
          obtain ⟨s, rfl⟩ : ∃ m : Nat, x = m := ⟨x.toNat, by omega⟩
          have HOP3 := Lib.hid (HOP2.out.tape hTw hg3 ht3)
          have hs3 := hg3.size
          clear hg3 ht3
          go_wp2_with (at_builtin; refine wpList_append_own_at _ rfl (.tmp 24) (.tmp 32) 24 rfl w.heap.size 54 i0 _ 3 40 Try.underlying24 HI.out HI0.out HI1.out HI2.out rfl (by decide) _ ps.length (ocs ps) rfl (HOP3.out.row.alloc _) ⟨w3.heap.size, 0, none⟩ 1 1 [.int .i64 (f : Int), .int .i64 (s : Int), .slice none 0 0] rfl rfl (World.news_of_block (cs := #[.int .i64 (f : Int), .int .i64 (s : Int), .slice none 0 0]) (heap_alloc_new _ _)) (by simp [Value.oneCell']) (by unfold maxLen; omega) (by omega) (by simp; omega) ?_; intro v' w6 hown hgr _ hat; have HOWN := Lib.hid hown; have HGR := Lib.hid hgr; have HAT := Lib.hid hat; clear hown hgr hat)
          obtain ⟨k1, rfl⟩ : ∃ k1, k = k1 + 1 := ⟨k - 1, by omega⟩
          refine ⟨⟨k1, _, by simp; omega, by go_num, HOP3.out.more (o := ⟨f, s, []⟩) (dv := .slice none 0 0) hTw ⟨by simp, .inl ⟨rfl, rfl⟩⟩ (fun _ _ _ _ e => by cases e) ⟨.inr ⟨show 1 ≤ s by omega, rfl, show s ≤ N by omega, show f ≤ N - s by omega⟩, ?_⟩ HOWN.out HGR.out HAT.out⟩, by simp [intOf]⟩
          have e : cnt ⟨f, s, []⟩ = s := if_pos (show 1 ≤ s by omega)
          show cnt ⟨f, s, []⟩ ≤ 70
          omega
        · have hrd : decide ((0 : Int) < (r : Int)) = false := decide_eq_false (by omega)
          go_wp2_with fail
          refine (between_any T 1 6 _ HOP1.out.tp (by omega) (by omega) (by omega) (by omega)).mono ?_
          rintro e w4 ⟨x, hm0, hm1, rfl, hg4, ht4⟩
          obtain ⟨m, rfl⟩ : ∃ m : Nat, x = m := ⟨x.toNat, by omega⟩
          have HOP4 := Lib.hid (HOP1.out.tape hTw hg4 ht4)
          have hs4 := hg4.size
          clear hg4 ht4
          go_wp2_with fail
          refine (bytes_any T m _ HOP4.out.tp (by omega) (by omega)).mono ?_
          rintro e w5 ⟨v, rfl, hrel⟩
          obtain ⟨bs, A, c, rfl, hl, hby, hfa, hg5, ht5⟩ := made_by hrel (by omega)
          have HOP5 := Lib.hid (HOP4.out.tape hTw hg5 ht5)
          have hs5 := hg5.size
          have HBY := Lib.hid hby
          have HFA := Lib.hid hfa
          have HL := Lib.hid hl
          clear hrel hl hby hfa hg5 ht5
          go_wp2_with (at_builtin; refine wpList_append_own_at _ rfl (.tmp 34) (.tmp 40) 24 rfl w.heap.size 54 i0 _ 3 40 Try.underlying24 HI.out HI0.out HI1.out HI2.out rfl (by decide) _ ps.length (ocs ps) rfl (HOP5.out.row.alloc _) ⟨w5.heap.size, 0, none⟩ 1 1 [.int .i64 0, .int .i64 0, .slice A m c] rfl rfl (World.news_of_block (cs := #[.int .i64 0, .int .i64 0, .slice A m c]) (heap_alloc_new _ _)) (by simp [Value.oneCell']) (by unfold maxLen; omega) (by omega) (by simp; omega) ?_; intro v' w6 hown hgr _ hat; have HOWN := Lib.hid hown; have HGR := Lib.hid hgr; have HAT := Lib.hid hat; clear hown hgr hat)
          obtain ⟨k1, rfl⟩ : ∃ k1, k = k1 + 1 := ⟨k - 1, by omega⟩
          refine ⟨⟨k1, _, by simp; omega, by go_num, HOP5.out.more (o := ⟨0, 0, bs⟩) (dv := .slice A m c) hTw HBY.out (fun b off n c' e => ?_) ⟨.inl ⟨rfl, rfl, A, m, c, rfl, by omega⟩, ?_⟩ HOWN.out HGR.out HAT.out⟩, by simp [intOf]⟩
          · injection e with e1 _ _
            have h1 := HFA.out _ e1
            simp only at h1
            refine ⟨fun e2 => ?_, by omega⟩
            have h2 := (HOP4.out.row.lt _ e2).2
            omega
          · have e : cnt ⟨0, 0, bs⟩ = bs.length := if_neg (by simp)
            show cnt ⟨0, 0, bs⟩ ≤ 70
            rw [e, HL.out]
            omega
    · obtain rfl : k = 0 := by omega
      go_wp2
      go_ret
      exact ⟨ps, _, rfl, by omega, HOP.out⟩

end Go.Proofs.Ytgaliinjjonlmaa.Dt
