import Derived.Test.YtgknfkmojhganaaGreatDjM
namespace Go.Proofs.YtgknfkmojhganaaGreat.Di
open Go.RowKit
open Go.Proofs.YtgknfkmojhganaaGreat.Tp
set_option linter.unusedVariables false

theorem own_spare {w : World} {B e n c g : Nat} {xs : List Value} (h : w.ownsRow B e 1 (.slice (some ⟨g, 0, none⟩) n c) n xs) : n ≤ c ∧ (∀ k, k < c → (w.cell? ⟨g, k, none⟩).isSome = true) ∧ ∀ k, w.frozen? ⟨g, k, none⟩ = false := by
  rcases h.2 with ⟨hv, _⟩ | ⟨g', cap, cur, hv, hB, hh, h1, h2, h3, ht⟩
  · cases hv
  · cases hv
    refine ⟨h1, fun k hk => ?_, fun k => frozen_of_row _ _ _ _ _ hh⟩
    rw [cell_of_row _ _ _ _ _ _ hh]
    have : k < cur.size := by omega
    simp [this]

theorem at_idx {p : Nat → Bool} {n j : Nat} (hj : j < cnt p n) : (idx p n).getD j 0 < n ∧ p ((idx p n).getD j 0) = true := by
  rw [← idx_len] at hj
  have hm : (idx p n).getD j 0 ∈ idx p n := by
    rw [List.getD_eq_getElem?_getD, List.getElem?_eq_getElem hj]
    exact List.getElem_mem hj
  exact (idx_mem _ _ _).1 hm

/-- As WhyPost, with what is known of the capacity. -/
def WhPost2 (d : Dy) (t p g : Nat) (w : World) (e : Ending) (w' : World) : Prop :=
  (InG d t p g ∧ ∃ (c : List Nat) (A : Option Addr) (cc : Nat), e = .returned (.tuple #[.slice A c.length cc, .bool true]) ∧ Chain (dm d t) d.k.length p g c ∧ c.length ≤ cc ∧ Row w' w.heap.size 1 A c.length (iv c) ∧ Below w.heap.size w w') ∨
  (¬ InG d t p g ∧ e = .returned (.tuple #[.slice none 0 0, .bool false]) ∧ Below w.heap.size w w')

set_option maxRecDepth 100000 in
set_option maxHeartbeats 1000000 in
theorem why2_any (B : Nat) (d : Dy) (v : Vd) (p g t : Nat) (w : World) (h : DL w B d v) (hok : Ok d) :
    Calls Tryz.prog 51 #[.agg (gd d v), .int .i64 (p : Int), .int .i64 (g : Int), .int .i64 (t : Int)] w (WhPost2 d t p g w) := by
  have HB := Lib.hid (box_below w (.cells (gd d v) 25))
  have A1 := Lib.hid (heap_alloc_new w (.cells (gd d v) 25))
  have hn := hok.n
  have HOK := Lib.hid hok
  have HD := Lib.hid h
  have hck := fun w' (hw : Below w.heap.size w w') => check_any B d v w' (h.below hw) hok
  have hex := fun w' => exists_any d v p w'
  have hgr := fun w' (hw : Below w.heap.size w w') => group_any B d v g w' (h.below hw)
  have hma := fun w' (hw : Below w.heap.size w w') => members_any B d v t w' (h.below hw) hok
  simp only [gd] at hck hex hma hgr
  have HCK := Lib.hid hck
  have HEX := Lib.hid hex
  have HGR := Lib.hid hgr
  have HMA := Lib.hid hma
  obtain ⟨g0, g1⟩ := gdCells A1.out
  clear h hok hck hex hma hgr
  by_cases hp : p < d.k.length
  · rw [decide_eq_true hp] at HEX
    cases hg : gB d g with
    | true =>
      rw [hg] at HGR
      obtain ⟨hgn, hg2⟩ := (gB_iff d g).1 hg
      by_cases hpg : p = g
      · have HNO := Lib.hid (show ¬ InG d t p g from fun hi => hi.2.2.2.1 hpg)
        have e1 : ((p : Int) == (g : Int)) = true := by rw [hpg]; simp
        clear hpg
        go_enter Tryz.func51, Tryz.ntmps51
        go_wp2_with (first
          | (go_at_call 44; (with_reducible refine (HCK.out _ HB.out).mono ?_); rintro e w1 ⟨rfl, hb1⟩; have B1 := Lib.hid (HB.out.trans (hb1.mono HB.out.size)); have C1 := Lib.hid ((hb1.block _ (row_lt A1.out)).trans A1.out); obtain ⟨c0, c1⟩ := gdCells C1.out; clear hb1)
          | (go_at_call 83; (with_reducible refine (HEX.out _).mono ?_); rintro e w2 ⟨rfl, hb2⟩; have B2 := Lib.hid (B1.out.trans (hb2.mono B1.out.size)); have D1 := Lib.hid ((hb2.block _ (row_lt C1.out)).trans C1.out); obtain ⟨d0, d1⟩ := gdCells D1.out; clear hb2 g0 g1 c0 c1)
          | (go_at_call 84; (with_reducible refine (HGR.out _ B2.out).mono ?_); rintro e w3 ⟨rfl, hb3⟩; have B3 := Lib.hid (B2.out.trans (hb3.mono B2.out.size)); clear hb3))
        go_ret2
        exact .inr ⟨HNO.out, by first | rfl | simp, B3.out⟩
      · have HNE := Lib.hid hpg
        have e1 : ((p : Int) == (g : Int)) = false := beq_eq_false_iff_ne.2 (by omega)
        have q0 : (0 : Int) ≤ (g : Int) := by omega
        have q1 : (g : Int) < (d.k.length : Int) := by omega
        clear hpg hg
        go_enter Tryz.func51, Tryz.ntmps51
        go_wp2_with (first
          | (go_at_call 44; (with_reducible refine (HCK.out _ HB.out).mono ?_); rintro e w1 ⟨rfl, hb1⟩; have B1 := Lib.hid (HB.out.trans (hb1.mono HB.out.size)); have C1 := Lib.hid ((hb1.block _ (row_lt A1.out)).trans A1.out); obtain ⟨c0, c1⟩ := gdCells C1.out; clear hb1)
          | (go_at_call 83; (with_reducible refine (HEX.out _).mono ?_); rintro e w2 ⟨rfl, hb2⟩; have B2 := Lib.hid (B1.out.trans (hb2.mono B1.out.size)); have D1 := Lib.hid ((hb2.block _ (row_lt C1.out)).trans C1.out); obtain ⟨d0, d1⟩ := gdCells D1.out; clear hb2 g0 g1 c0 c1)
          | (go_at_call 84; (with_reducible refine (HGR.out _ B2.out).mono ?_); rintro e w3 ⟨rfl, hb3⟩; have B3 := Lib.hid (B2.out.trans (hb3.mono B2.out.size)); have E1 := Lib.hid ((hb3.block _ (row_lt D1.out)).trans D1.out); obtain ⟨e0, e1'⟩ := gdCells E1.out; clear hb3 d0 d1)
          | (go_at_call 95; (with_reducible refine (HMA.out _ B3.out).mono ?_); rintro e w4 ⟨G, gg, rfl, hmo, hb4⟩; have B4 := Lib.hid (B3.out.trans (hb4.mono B3.out.size)); have HUQ := Lib.hid (upward_any d.k.length p d.k.length (some ⟨G, 0, none⟩) (dm d t) w4 (hmo.mm.base (Nat.zero_le _)) hp hn); clear hb4 hmo e0 e1'))
        refine HUQ.out.mono ?_
        rintro e w5 ⟨H, th, L, rfl, hbf, hsh, hrow, hb5⟩
        have B5 := Lib.hid (B4.out.trans (hb5.mono B4.out.size))
        have HBF := Lib.hid hbf
        have HR := Lib.hid (hrow.base (Nat.zero_le _))
        obtain ⟨b, off, e6, -, -, y0⟩ := hrow.thr hgn
        cases e6
        rw [Nat.zero_add] at y0
        have hdn := hbf.done hsh hgn
        by_cases hx : 0 < th.getD g 0
        · have HIN := Lib.hid (show InG d t p g from ⟨hp, hgn, hg2, HNE.out, hdn.1 hx⟩)
          obtain ⟨k0, hk0, hk0g⟩ := (hbf.seen g hgn).1 hx
          have HK0 := Lib.hid hk0
          have HK0G := Lib.hid hk0g
          generalize th.getD g 0 = x at *
          have e2 : (((x : Int) - 1) == -1) = false := beq_eq_false_iff_ne.2 (by omega)
          obtain ⟨i0, hi1, hz0, hz1, hz2⟩ := info_parts zinfo3
          have HI := Lib.hid hi1
          have HI0 := Lib.hid hz0
          have HI1 := Lib.hid hz1
          have HI2 := Lib.hid hz2
          have HBX := Lib.hid (B5.out.trans ((box_below w5 (.cells #[.int .i64 (g : Int)] 3)).mono B5.out.size))
          have HRX := Lib.hid (HR.out.below (box_below w5 (.cells #[.int .i64 (g : Int)] 3)))
          have hH5 : H < w5.heap.size := by obtain ⟨b, off, e6, -, hl, -⟩ := hrow.thr hgn; cases e6; exact hl
          have hro : (w5.alloc (.cells #[.int .i64 (g : Int)] 3)).ownsRow w5.heap.size 3 1 (.slice (some ⟨w5.heap.size, 0, none⟩) 1 1) 1 (iv [g]) := full_own (heap_alloc_new w5 _) (Nat.le_refl _) rfl (by omega)
          have HRO := Lib.hid hro
          clear hbf hsh hrow hb5 hdn hx hk0 hk0g hi1 hz0 hz1 hz2 hro
          go_wp2_with fail
          clear y0
          go_loopw [11, 12] (fun cv qv wr => ∃ (c : List Nat) (k u : Nat) (A : Option Addr) (cc : Nat), cv = .slice A c.length cc ∧ qv = .int .i64 (u : Int) ∧ L.getD k 0 = u ∧ Back (dm d t) th L g c k ∧ w5.heap.size ≤ wr.heap.size ∧ wr.ownsRow w5.heap.size 3 1 (.slice A c.length cc) c.length (iv c) ∧ Row wr 0 1 (some ⟨H, 0, none⟩) d.k.length (tv th) ∧ Below w.heap.size w wr) (fun cv _ _ => d.k.length - lenOf cv)
          case atStart => exact ⟨[g], k0, g, _, 1, rfl, rfl, HK0G.out, by have := Back.start (M := dm d t) (th := th) HK0.out; rwa [HK0G.out] at this, by simp, HRO.out, HRX.out, HBX.out⟩
          case round =>
            obtain ⟨c, k, u, A, cc, rfl, rfl, hu, hbk, hsz, hown, hrw, hbl⟩ := hrel
            have HB5 := Lib.hid B5.out.size
            have HBK := Lib.hid hbk
            have HOK' := Lib.hid hown
            have HRW := Lib.hid hrw
            have HBL := Lib.hid hbl
            have hkl := hbk.kl
            have hinj := hbk.inj HBF.out
            have hcn := hinj.2.1
            by_cases hk : k = 0
            · subst hk
              obtain rfl : p = u := by rw [← hu, HBF.out.hd]
              have hpos := hbk.pos
              obtain ⟨gc, rfl, hgB, hgl⟩ := own_head hown hpos
              have HRV := Lib.hid (reverse_any w5.heap.size c gc c.length cc wr hown (by omega) hpos)
              have e3 : ((p : Int) != (p : Int)) = false := by simp
              have HCH := Lib.hid (hbk.chain HBF.out HNE.out)
              clear hu hbk hown hrw hbl hkl hinj hcn hpos
              go_wp2_with (go_at_call 97; (with_reducible refine HRV.out.mono ?_); rintro e w7 ⟨rfl, ho7, hg7⟩; have O7 := Lib.hid ho7; have B7 := Lib.hid (HBL.out.grown hg7 HBL.out.size (fun j e => by cases e; exact Nat.le_trans HB5.out hgB)); clear ho7 hg7)
              go_ret2
              exact .inl ⟨HIN.out, c.reverse, some ⟨gc, 0, none⟩, cc, by rw [List.length_reverse]; first | rfl | simp, HCH.out, by rw [List.length_reverse]; exact (own_spare O7.out).1, by rw [List.length_reverse]; exact (row_of_own O7.out).base HB5.out, B7.out⟩
            · obtain ⟨k', hk', hth, hbk'⟩ := hbk.next HBF.out (by omega)
              have hnp : u ≠ p := fun e => hk (HBF.out.inj k 0 hkl HBF.out.pos (hu.trans (e.trans HBF.out.hd.symm)))
              have hqn := HBF.out.lt k hkl
              rw [hu] at hqn hth
              obtain ⟨b, off, e6, -, -, y0⟩ := hrw.thr hqn
              cases e6
              obtain ⟨u', hu'⟩ : ∃ u', L.getD k' 0 = u' := ⟨_, rfl⟩
              rw [hu'] at hth hbk'
              rw [Nat.zero_add, hth] at y0
              have y1 : wr.cell? ⟨H, u, none⟩ = some (.int .i64 (u' : Int)) := by rw [y0]; congr 2; omega
              have hcn' := (hbk'.inj HBF.out).2.1
              rw [List.length_append] at hcn'
              have hcn2 : c.length + 1 ≤ d.k.length := hcn'
              have e3 : ((u : Int) != (p : Int)) = true := by rw [bne, beq_eq_false_iff_ne.2 (show (u : Int) ≠ (p : Int) by omega)]; rfl
              have HBK2 := Lib.hid hbk'
              have HU' := Lib.hid hu'
              have HIX := Lib.hid (iv_snoc c u')
              have u0 : (0 : Int) ≤ (u : Int) := by omega
              have u1 : (u : Int) < (d.k.length : Int) := by omega
              clear y0 hth hu hu' hbk' hbk hown hrw hbl hkl hinj hcn hcn' hnp
              go_wp2_with (at_builtin; refine wpList_append_own _ rfl (.tmp 53) (.tmp 55) 22 rfl w5.heap.size 3 i0 (.int .i64 0) 1 8 Tryz.underlying22 HI.out HI0.out HI1.out HI2.out rfl (by decide) _ c.length (iv c) rfl (HOK'.out.alloc _) ⟨wr.heap.size, 0, none⟩ 1 1 [.int .i64 (u' : Int)] rfl rfl (World.news_of_block (heap_alloc_new wr _)) (by simp [Value.oneCell']) (by unfold maxLen; omega) (by omega) (by simp; omega) ?_; intro v' w6 hown hgr _; have HGR6 := Lib.hid hgr; have HOWN6 := Lib.hid hown; clear hown hgr)
              obtain ⟨A', cc', rfl⟩ := own_form HOWN6.out
              have hb9 := box_below wr (.cells #[.int .i64 (u' : Int)] 3)
              have hl9 := HGR6.out.size
              have hs9 := hb9.size
              have hcl : (c ++ [u']).length = c.length + 1 := by simp
              refine ⟨⟨c ++ [u'], k', u', A', cc', by rw [hcl], rfl, HU'.out, HBK2.out, by omega, ?_, ?_, ?_⟩, ?_⟩
              · rw [hcl, HIX.out]; exact HOWN6.out
              · exact (HRW.out.below hb9).keep HGR6.out (fun gg e b off h0 eA => by
                  have h5 := (HOK'.out.lt gg e).1
                  cases eA
                  omega)
              · exact (HBL.out.trans (hb9.mono HBL.out.size)).grown HGR6.out (Nat.le_trans HBL.out.size hs9) (fun j e => by
                  have h5 := (HOK'.out.lt j e).1
                  have := HB5.out
                  omega)
              · show d.k.length - (c.length + 1) < d.k.length - c.length
                omega
        · have HNI := Lib.hid (show ¬ InG d t p g from fun hi => hx (hdn.2 hi.2.2.2.2))
          have hx0 : th.getD g 0 = 0 := by omega
          rw [hx0] at y0
          have y1 : w5.cell? ⟨H, g, none⟩ = some (.int .i64 (-1)) := y0
          clear y0 hx0 hx hdn hbf hsh hrow hb5
          go_wp2_with fail
          go_ret2
          exact .inr ⟨HNI.out, by first | rfl | simp, B5.out⟩
    | false =>
      rw [hg] at HGR
      have HNO := Lib.hid (show ¬ InG d t p g from fun hi => by have := (gB_iff d g).2 ⟨hi.2.1, hi.2.2.1⟩; rw [hg] at this; cases this)
      clear hg
      go_enter Tryz.func51, Tryz.ntmps51
      go_wp2_with (first
        | (go_at_call 44; (with_reducible refine (HCK.out _ HB.out).mono ?_); rintro e w1 ⟨rfl, hb1⟩; have B1 := Lib.hid (HB.out.trans (hb1.mono HB.out.size)); have C1 := Lib.hid ((hb1.block _ (row_lt A1.out)).trans A1.out); obtain ⟨c0, c1⟩ := gdCells C1.out; clear hb1)
        | (go_at_call 83; (with_reducible refine (HEX.out _).mono ?_); rintro e w2 ⟨rfl, hb2⟩; have B2 := Lib.hid (B1.out.trans (hb2.mono B1.out.size)); have D1 := Lib.hid ((hb2.block _ (row_lt C1.out)).trans C1.out); obtain ⟨d0, d1⟩ := gdCells D1.out; clear hb2 g0 g1 c0 c1)
        | (go_at_call 84; (with_reducible refine (HGR.out _ B2.out).mono ?_); rintro e w3 ⟨rfl, hb3⟩; have B3 := Lib.hid (B2.out.trans (hb3.mono B2.out.size)); clear hb3))
      go_ret2
      exact .inr ⟨HNO.out, by first | rfl | simp, B3.out⟩
  · rw [decide_eq_false hp] at HEX
    have HNO := Lib.hid (show ¬ InG d t p g from fun hi => hp hi.1)
    go_enter Tryz.func51, Tryz.ntmps51
    go_wp2_with (first
      | (go_at_call 44; (with_reducible refine (HCK.out _ HB.out).mono ?_); rintro e w1 ⟨rfl, hb1⟩; have B1 := Lib.hid (HB.out.trans (hb1.mono HB.out.size)); have C1 := Lib.hid ((hb1.block _ (row_lt A1.out)).trans A1.out); obtain ⟨c0, c1⟩ := gdCells C1.out; clear hb1)
      | (go_at_call 83; (with_reducible refine (HEX.out _).mono ?_); rintro e w2 ⟨rfl, hb2⟩; have B2 := Lib.hid (B1.out.trans (hb2.mono B1.out.size)); clear hb2))
    go_ret2
    exact .inr ⟨HNO.out, by first | rfl | simp, B2.out⟩

theorem out_no {M : Nat → Nat → Bool} {n : Nat} {l : List Nat} (h : anyB (fun i => outB M n l (l.getD i 0)) l.length = false) {a b : Nat} (ha : inl l a = true) (hb : b < n) (hm : M a b = true) : inl l b = true := by
  obtain ⟨i, hi, he⟩ := (any_iff _ _).1 ha
  have e : l.getD i 0 = a := beq_iff_eq.1 he
  have h2 := no_any h i hi
  rw [e] at h2
  unfold outB at h2
  have h3 : cnt (fun q => M a q && !inl l q) n = 0 := by
    have := of_decide_eq_false h2
    omega
  cases hx : inl l b with
  | true => rfl
  | false =>
    have h4 : 0 < cnt (fun q => M a q && !inl l q) n := by
      have : b ∈ idx (fun q => M a q && !inl l q) n := (idx_mem _ _ _).2 ⟨hb, by rw [hm, hx]; rfl⟩
      rw [← idx_len]
      exact List.length_pos_of_mem this
    omega
/-- A closed list has all groups of its members. -/
theorem cl_has {d : Dy} {t : Nat} {l : List Nat} (h : clB d t l = true) {i g : Nat} (hi : i < l.length) (hr : Rc d t (l.getD i 0) g) : inl l g = true := by
  unfold clB at h
  have h2 : anyB (fun i => outB (dm d t) d.k.length l (l.getD i 0)) l.length = false := by
    cases hb : anyB (fun i => outB (dm d t) d.k.length l (l.getD i 0)) l.length with
    | false => rfl
    | true => rw [hb] at h; cases h
  exact closed_has (S := fun x => inl l x = true) (fun a ha _ b hb hm => out_no h2 ha hb hm) ((any_iff _ _).2 ⟨i, hi, beq_iff_eq.2 rfl⟩) hr
theorem idx_strict (p : Nat → Bool) : ∀ n, Strict (idx p n) n
  | 0 => Strict.nil 0
  | n + 1 => by
    rw [idx]
    split
    · exact (idx_strict p n).snoc
    · exact (idx_strict p n).more
theorem inl_idx (p : Nat → Bool) (n i : Nat) (hi : i < n) : inl (idx p n) i = p i := by
  unfold inl
  rw [idx_len]
  exact has_idx p n i hi
/-- What is reached is closed. -/
theorem cl_up (d : Dy) (t p : Nat) : clB d t (idx (upB d t p) d.k.length) = true := by
  unfold clB
  rw [Bool.not_eq_true']
  refine any_no fun i hi => ?_
  rw [idx_len] at hi
  obtain ⟨h1, h2⟩ := at_idx hi
  generalize (idx (upB d t p) d.k.length).getD i 0 = u at *
  obtain ⟨hp, hr⟩ := (upB_iff _ _ _ _).1 h2
  unfold outB
  have hz := (cnt_none (p := fun q => dm d t u q && !inl (idx (upB d t p) d.k.length) q) (n := d.k.length) (fun q hq => by
    rw [inl_idx _ _ _ hq]
    cases hm : dm d t u q with
    | false => rfl
    | true => rw [(upB_iff d t p q).2 ⟨hp, .step hr h1 hq hm⟩]; rfl)).1
  rw [hz]
  rfl
theorem up_self {d : Dy} {t p : Nat} (hp : p < d.k.length) : upB d t p p = true := (upB_iff _ _ _ _).2 ⟨hp, .here⟩
end Go.Proofs.YtgknfkmojhganaaGreat.Di
