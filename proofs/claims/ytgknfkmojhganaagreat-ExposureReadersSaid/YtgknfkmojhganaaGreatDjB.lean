import Derived.Test.YtgknfkmojhganaaGreatDjA
namespace Go.Proofs.YtgknfkmojhganaaGreat.Di
open Go.RowKit
open Go.Proofs.YtgknfkmojhganaaGreat.Tp
set_option linter.unusedVariables false

/-- A chain from p to g: different ones, each directly in the next. -/
structure Chain (M : Nat → Nat → Bool) (n p g : Nat) (c : List Nat) : Prop where
  two : 2 ≤ c.length
  le : c.length ≤ n
  hd : c.getD 0 0 = p
  last : c.getD (c.length - 1) 0 = g
  inj : ∀ i j, i < c.length → j < c.length → c.getD i 0 = c.getD j 0 → i = j
  lt : ∀ i, i < c.length → c.getD i 0 < n
  link : ∀ i, i + 1 < c.length → M (c.getD i 0) (c.getD (i + 1) 0) = true
theorem rev_at {c : List Nat} {i : Nat} (h : i < c.length) : c.reverse.getD i 0 = c.getD (c.length - 1 - i) 0 := by
  rw [List.getD_eq_getElem?_getD, List.getD_eq_getElem?_getD, List.getElem?_reverse h]
theorem Back.chain {M : Nat → Nat → Bool} {n p g : Nat} {th L c : List Nat} (h : Bfs M n p th L) (b : Back M th L g c 0) (hne : p ≠ g) : Chain M n p g c.reverse := by
  obtain ⟨h1, h2, h3⟩ := b.inj h
  have hp := b.pos
  have hl := b.last
  rw [h.hd] at hl
  have h2' : 2 ≤ c.length := by
    rcases Nat.lt_or_ge c.length 2 with e | e
    · have e1 : c.length = 1 := by omega
      rw [e1, Nat.sub_self, b.hd] at hl
      exact absurd hl.symm hne
    · exact e
  refine ⟨by simpa using h2', by simpa using h2, ?_, ?_, fun i j hi hj e => ?_, fun i hi => ?_, fun i hi => ?_⟩
  · rw [rev_at hp, Nat.sub_zero]; exact hl
  · rw [List.length_reverse, rev_at (by omega), show c.length - 1 - (c.length - 1) = 0 by omega]; exact b.hd
  · simp at hi hj
    rw [rev_at hi, rev_at hj] at e
    have := h1 _ _ (by omega) (by omega) e
    omega
  · simp at hi
    rw [rev_at hi]
    exact h3 _ (by omega)
  · simp at hi
    rw [rev_at (by omega), rev_at (by omega)]
    have := b.link (c.length - 1 - (i + 1)) (by omega)
    rwa [show c.length - 1 - (i + 1) + 1 = c.length - 1 - i by omega] at this

def WhyPost (d : Dy) (t p g : Nat) (w : World) (e : Ending) (w' : World) : Prop :=
  (InG d t p g ∧ ∃ (c : List Nat) (A : Option Addr) (cc : Nat), e = .returned (.tuple #[.slice A c.length cc, .bool true]) ∧ Chain (dm d t) d.k.length p g c ∧ Row w' w.heap.size 1 A c.length (iv c) ∧ Below w.heap.size w w') ∨
  (¬ InG d t p g ∧ e = .returned (.tuple #[.slice none 0 0, .bool false]) ∧ Below w.heap.size w w')

set_option maxRecDepth 100000 in
set_option maxHeartbeats 1000000 in
theorem why_any (B : Nat) (d : Dy) (v : Vd) (p g t : Nat) (w : World) (h : DL w B d v) (hok : Ok d) :
    Calls Tryz.prog 51 #[.agg (gd d v), .int .i64 (p : Int), .int .i64 (g : Int), .int .i64 (t : Int)] w (WhyPost d t p g w) := by
  have HB := Lib.hid (box_below w (.cells (gd d v) 25))
  have A1 := Lib.hid (heap_alloc_new w (.cells (gd d v) 25))
  have hn := hok.n
  have HOK := Lib.hid hok
  have HD := Lib.hid h
  have hck := fun w' (hw : Below w.heap.size w w') => check_any B d v w' (h.below hw) hok
  have hex := fun w' => exists_any d v p w'
  have hgr := fun w' (hw : Below w.heap.size w w') => group_any B d v g w' (h.below hw)
  have hma := fun w' (hw : Below w.heap.size w w') => members_any B d v t w' (h.below hw) hok
  simp only [gd] at hck hex hma hgr
  have HCK := Lib.hid hck
  have HEX := Lib.hid hex
  have HGR := Lib.hid hgr
  have HMA := Lib.hid hma
  obtain ⟨g0, g1⟩ := gdCells A1.out
  clear h hok hck hex hma hgr
  by_cases hp : p < d.k.length
  · rw [decide_eq_true hp] at HEX
    cases hg : gB d g with
    | true =>
      rw [hg] at HGR
      obtain ⟨hgn, hg2⟩ := (gB_iff d g).1 hg
      by_cases hpg : p = g
      · have HNO := Lib.hid (show ¬ InG d t p g from fun hi => hi.2.2.2.1 hpg)
        have e1 : ((p : Int) == (g : Int)) = true := by rw [hpg]; simp
        clear hpg
        go_enter Tryz.func51, Tryz.ntmps51
        go_wp2_with (first
          | (go_at_call 44; (with_reducible refine (HCK.out _ HB.out).mono ?_); rintro e w1 ⟨rfl, hb1⟩; have B1 := Lib.hid (HB.out.trans (hb1.mono HB.out.size)); have C1 := Lib.hid ((hb1.block _ (row_lt A1.out)).trans A1.out); obtain ⟨c0, c1⟩ := gdCells C1.out; clear hb1)
          | (go_at_call 83; (with_reducible refine (HEX.out _).mono ?_); rintro e w2 ⟨rfl, hb2⟩; have B2 := Lib.hid (B1.out.trans (hb2.mono B1.out.size)); have D1 := Lib.hid ((hb2.block _ (row_lt C1.out)).trans C1.out); obtain ⟨d0, d1⟩ := gdCells D1.out; clear hb2 g0 g1 c0 c1)
          | (go_at_call 84; (with_reducible refine (HGR.out _ B2.out).mono ?_); rintro e w3 ⟨rfl, hb3⟩; have B3 := Lib.hid (B2.out.trans (hb3.mono B2.out.size)); clear hb3))
        go_ret2
        exact .inr ⟨HNO.out, by first | rfl | simp, B3.out⟩
      · have HNE := Lib.hid hpg
        have e1 : ((p : Int) == (g : Int)) = false := beq_eq_false_iff_ne.2 (by omega)
        have q0 : (0 : Int) ≤ (g : Int) := by omega
        have q1 : (g : Int) < (d.k.length : Int) := by omega
        clear hpg hg
        go_enter Tryz.func51, Tryz.ntmps51
        go_wp2_with (first
          | (go_at_call 44; (with_reducible refine (HCK.out _ HB.out).mono ?_); rintro e w1 ⟨rfl, hb1⟩; have B1 := Lib.hid (HB.out.trans (hb1.mono HB.out.size)); have C1 := Lib.hid ((hb1.block _ (row_lt A1.out)).trans A1.out); obtain ⟨c0, c1⟩ := gdCells C1.out; clear hb1)
          | (go_at_call 83; (with_reducible refine (HEX.out _).mono ?_); rintro e w2 ⟨rfl, hb2⟩; have B2 := Lib.hid (B1.out.trans (hb2.mono B1.out.size)); have D1 := Lib.hid ((hb2.block _ (row_lt C1.out)).trans C1.out); obtain ⟨d0, d1⟩ := gdCells D1.out; clear hb2 g0 g1 c0 c1)
          | (go_at_call 84; (with_reducible refine (HGR.out _ B2.out).mono ?_); rintro e w3 ⟨rfl, hb3⟩; have B3 := Lib.hid (B2.out.trans (hb3.mono B2.out.size)); have E1 := Lib.hid ((hb3.block _ (row_lt D1.out)).trans D1.out); obtain ⟨e0, e1'⟩ := gdCells E1.out; clear hb3 d0 d1)
          | (go_at_call 95; (with_reducible refine (HMA.out _ B3.out).mono ?_); rintro e w4 ⟨G, gg, rfl, hmo, hb4⟩; have B4 := Lib.hid (B3.out.trans (hb4.mono B3.out.size)); have HUQ := Lib.hid (upward_any d.k.length p d.k.length (some ⟨G, 0, none⟩) (dm d t) w4 (hmo.mm.base (Nat.zero_le _)) hp hn); clear hb4 hmo e0 e1'))
        refine HUQ.out.mono ?_
        rintro e w5 ⟨H, th, L, rfl, hbf, hsh, hrow, hb5⟩
        have B5 := Lib.hid (B4.out.trans (hb5.mono B4.out.size))
        have HBF := Lib.hid hbf
        have HR := Lib.hid (hrow.base (Nat.zero_le _))
        obtain ⟨b, off, e6, -, -, y0⟩ := hrow.thr hgn
        cases e6
        rw [Nat.zero_add] at y0
        have hdn := hbf.done hsh hgn
        by_cases hx : 0 < th.getD g 0
        · have HIN := Lib.hid (show InG d t p g from ⟨hp, hgn, hg2, HNE.out, hdn.1 hx⟩)
          obtain ⟨k0, hk0, hk0g⟩ := (hbf.seen g hgn).1 hx
          have HK0 := Lib.hid hk0
          have HK0G := Lib.hid hk0g
          generalize th.getD g 0 = x at *
          have e2 : (((x : Int) - 1) == -1) = false := beq_eq_false_iff_ne.2 (by omega)
          obtain ⟨i0, hi1, hz0, hz1, hz2⟩ := info_parts zinfo3
          have HI := Lib.hid hi1
          have HI0 := Lib.hid hz0
          have HI1 := Lib.hid hz1
          have HI2 := Lib.hid hz2
          have HBX := Lib.hid (B5.out.trans ((box_below w5 (.cells #[.int .i64 (g : Int)] 3)).mono B5.out.size))
          have HRX := Lib.hid (HR.out.below (box_below w5 (.cells #[.int .i64 (g : Int)] 3)))
          have hH5 : H < w5.heap.size := by obtain ⟨b, off, e6, -, hl, -⟩ := hrow.thr hgn; cases e6; exact hl
          have hro : (w5.alloc (.cells #[.int .i64 (g : Int)] 3)).ownsRow w5.heap.size 3 1 (.slice (some ⟨w5.heap.size, 0, none⟩) 1 1) 1 (iv [g]) := full_own (heap_alloc_new w5 _) (Nat.le_refl _) rfl (by omega)
          have HRO := Lib.hid hro
          clear hbf hsh hrow hb5 hdn hx hk0 hk0g hi1 hz0 hz1 hz2 hro
          go_wp2_with fail
          clear y0
          go_loopw [11, 12] (fun cv qv wr => ∃ (c : List Nat) (k u : Nat) (A : Option Addr) (cc : Nat), cv = .slice A c.length cc ∧ qv = .int .i64 (u : Int) ∧ L.getD k 0 = u ∧ Back (dm d t) th L g c k ∧ w5.heap.size ≤ wr.heap.size ∧ wr.ownsRow w5.heap.size 3 1 (.slice A c.length cc) c.length (iv c) ∧ Row wr 0 1 (some ⟨H, 0, none⟩) d.k.length (tv th) ∧ Below w.heap.size w wr) (fun cv _ _ => d.k.length - lenOf cv)
          case atStart => exact ⟨[g], k0, g, _, 1, rfl, rfl, HK0G.out, by have := Back.start (M := dm d t) (th := th) HK0.out; rwa [HK0G.out] at this, by simp, HRO.out, HRX.out, HBX.out⟩
          case round =>
            obtain ⟨c, k, u, A, cc, rfl, rfl, hu, hbk, hsz, hown, hrw, hbl⟩ := hrel
            have HB5 := Lib.hid B5.out.size
            have HBK := Lib.hid hbk
            have HOK' := Lib.hid hown
            have HRW := Lib.hid hrw
            have HBL := Lib.hid hbl
            have hkl := hbk.kl
            have hinj := hbk.inj HBF.out
            have hcn := hinj.2.1
            by_cases hk : k = 0
            · subst hk
              obtain rfl : p = u := by rw [← hu, HBF.out.hd]
              have hpos := hbk.pos
              obtain ⟨gc, rfl, hgB, hgl⟩ := own_head hown hpos
              have HRV := Lib.hid (reverse_any w5.heap.size c gc c.length cc wr hown (by omega) hpos)
              have e3 : ((p : Int) != (p : Int)) = false := by simp
              have HCH := Lib.hid (hbk.chain HBF.out HNE.out)
              clear hu hbk hown hrw hbl hkl hinj hcn hpos
              go_wp2_with (go_at_call 97; (with_reducible refine HRV.out.mono ?_); rintro e w7 ⟨rfl, ho7, hg7⟩; have O7 := Lib.hid ho7; have B7 := Lib.hid (HBL.out.grown hg7 HBL.out.size (fun j e => by cases e; exact Nat.le_trans HB5.out hgB)); clear ho7 hg7)
              go_ret2
              exact .inl ⟨HIN.out, c.reverse, some ⟨gc, 0, none⟩, cc, by rw [List.length_reverse]; first | rfl | simp, HCH.out, by rw [List.length_reverse]; exact (row_of_own O7.out).base HB5.out, B7.out⟩
            · obtain ⟨k', hk', hth, hbk'⟩ := hbk.next HBF.out (by omega)
              have hnp : u ≠ p := fun e => hk (HBF.out.inj k 0 hkl HBF.out.pos (hu.trans (e.trans HBF.out.hd.symm)))
              have hqn := HBF.out.lt k hkl
              rw [hu] at hqn hth
              obtain ⟨b, off, e6, -, -, y0⟩ := hrw.thr hqn
              cases e6
              obtain ⟨u', hu'⟩ : ∃ u', L.getD k' 0 = u' := ⟨_, rfl⟩
              rw [hu'] at hth hbk'
              rw [Nat.zero_add, hth] at y0
              have y1 : wr.cell? ⟨H, u, none⟩ = some (.int .i64 (u' : Int)) := by rw [y0]; congr 2; omega
              have hcn' := (hbk'.inj HBF.out).2.1
              rw [List.length_append] at hcn'
              have hcn2 : c.length + 1 ≤ d.k.length := hcn'
              have e3 : ((u : Int) != (p : Int)) = true := by rw [bne, beq_eq_false_iff_ne.2 (show (u : Int) ≠ (p : Int) by omega)]; rfl
              have HBK2 := Lib.hid hbk'
              have HU' := Lib.hid hu'
              have HIX := Lib.hid (iv_snoc c u')
              have u0 : (0 : Int) ≤ (u : Int) := by omega
              have u1 : (u : Int) < (d.k.length : Int) := by omega
              clear y0 hth hu hu' hbk' hbk hown hrw hbl hkl hinj hcn hcn' hnp
              go_wp2_with (at_builtin; refine wpList_append_own _ rfl (.tmp 53) (.tmp 55) 22 rfl w5.heap.size 3 i0 (.int .i64 0) 1 8 Tryz.underlying22 HI.out HI0.out HI1.out HI2.out rfl (by decide) _ c.length (iv c) rfl (HOK'.out.alloc _) ⟨wr.heap.size, 0, none⟩ 1 1 [.int .i64 (u' : Int)] rfl rfl (World.news_of_block (heap_alloc_new wr _)) (by simp [Value.oneCell']) (by unfold maxLen; omega) (by omega) (by simp; omega) ?_; intro v' w6 hown hgr _; have HGR6 := Lib.hid hgr; have HOWN6 := Lib.hid hown; clear hown hgr)
              obtain ⟨A', cc', rfl⟩ := own_form HOWN6.out
              have hb9 := box_below wr (.cells #[.int .i64 (u' : Int)] 3)
              have hl9 := HGR6.out.size
              have hs9 := hb9.size
              have hcl : (c ++ [u']).length = c.length + 1 := by simp
              refine ⟨⟨c ++ [u'], k', u', A', cc', by rw [hcl], rfl, HU'.out, HBK2.out, by omega, ?_, ?_, ?_⟩, ?_⟩
              · rw [hcl, HIX.out]; exact HOWN6.out
              · exact (HRW.out.below hb9).keep HGR6.out (fun gg e b off h0 eA => by
                  have h5 := (HOK'.out.lt gg e).1
                  cases eA
                  omega)
              · exact (HBL.out.trans (hb9.mono HBL.out.size)).grown HGR6.out (Nat.le_trans HBL.out.size hs9) (fun j e => by
                  have h5 := (HOK'.out.lt j e).1
                  have := HB5.out
                  omega)
              · show d.k.length - (c.length + 1) < d.k.length - c.length
                omega
        · have HNI := Lib.hid (show ¬ InG d t p g from fun hi => hx (hdn.2 hi.2.2.2.2))
          have hx0 : th.getD g 0 = 0 := by omega
          rw [hx0] at y0
          have y1 : w5.cell? ⟨H, g, none⟩ = some (.int .i64 (-1)) := y0
          clear y0 hx0 hx hdn hbf hsh hrow hb5
          go_wp2_with fail
          go_ret2
          exact .inr ⟨HNI.out, by first | rfl | simp, B5.out⟩
    | false =>
      rw [hg] at HGR
      have HNO := Lib.hid (show ¬ InG d t p g from fun hi => by have := (gB_iff d g).2 ⟨hi.2.1, hi.2.2.1⟩; rw [hg] at this; cases this)
      clear hg
      go_enter Tryz.func51, Tryz.ntmps51
      go_wp2_with (first
        | (go_at_call 44; (with_reducible refine (HCK.out _ HB.out).mono ?_); rintro e w1 ⟨rfl, hb1⟩; have B1 := Lib.hid (HB.out.trans (hb1.mono HB.out.size)); have C1 := Lib.hid ((hb1.block _ (row_lt A1.out)).trans A1.out); obtain ⟨c0, c1⟩ := gdCells C1.out; clear hb1)
        | (go_at_call 83; (with_reducible refine (HEX.out _).mono ?_); rintro e w2 ⟨rfl, hb2⟩; have B2 := Lib.hid (B1.out.trans (hb2.mono B1.out.size)); have D1 := Lib.hid ((hb2.block _ (row_lt C1.out)).trans C1.out); obtain ⟨d0, d1⟩ := gdCells D1.out; clear hb2 g0 g1 c0 c1)
        | (go_at_call 84; (with_reducible refine (HGR.out _ B2.out).mono ?_); rintro e w3 ⟨rfl, hb3⟩; have B3 := Lib.hid (B2.out.trans (hb3.mono B2.out.size)); clear hb3))
      go_ret2
      exact .inr ⟨HNO.out, by first | rfl | simp, B3.out⟩
  · rw [decide_eq_false hp] at HEX
    have HNO := Lib.hid (show ¬ InG d t p g from fun hi => hp hi.1)
    go_enter Tryz.func51, Tryz.ntmps51
    go_wp2_with (first
      | (go_at_call 44; (with_reducible refine (HCK.out _ HB.out).mono ?_); rintro e w1 ⟨rfl, hb1⟩; have B1 := Lib.hid (HB.out.trans (hb1.mono HB.out.size)); have C1 := Lib.hid ((hb1.block _ (row_lt A1.out)).trans A1.out); obtain ⟨c0, c1⟩ := gdCells C1.out; clear hb1)
      | (go_at_call 83; (with_reducible refine (HEX.out _).mono ?_); rintro e w2 ⟨rfl, hb2⟩; have B2 := Lib.hid (B1.out.trans (hb2.mono B1.out.size)); clear hb2))
    go_ret2
    exact .inr ⟨HNO.out, by first | rfl | simp, B2.out⟩

end Go.Proofs.YtgknfkmojhganaaGreat.Di
