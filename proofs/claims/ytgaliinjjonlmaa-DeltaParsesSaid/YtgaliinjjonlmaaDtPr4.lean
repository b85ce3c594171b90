import Derived.Test.YtgaliinjjonlmaaDtPr3
import Derived.Test.YtgaliinjjonlmaaDtPs
namespace Go.Proofs.Ytgaliinjjonlmaa.Dt
open Go.RowKit
open Go.Proofs.Ytgaliinjjonlmaa.Tp
set_option linter.unusedVariables false

/-- What 'read' hands back. -/
def RdRes (bs : List Nat) (w : World) (e : Ending) (w' : World) : Prop :=
  (∃ o k v, st bs = some (o, k) ∧ good o = true ∧ e = .returned (.tuple #[.agg #[.int .i64 (o.f : Nat), .int .i64 (o.s : Nat), v], .int .i64 (k : Nat), .bool true]) ∧ By w' v o.d ∧ (∀ b off n c, v = .slice (some ⟨b, off, none⟩) n c → w.heap.size ≤ b) ∧ Below w.heap.size w w') ∨
  ((st bs = none ∨ ∃ o k, st bs = some (o, k) ∧ good o = false) ∧ ∃ F S z : Int, e = .returned (.tuple #[.agg #[.int .i64 F, .int .i64 S, .slice none 0 0], .int .i64 z, .bool false]) ∧ Below w.heap.size w w')

theorem num3_le {bs : List Nat} (h : ∀ b ∈ bs, b ≤ 255) (i : Nat) : num3 bs i ≤ 16777215 := by
  have := getD_le h i
  have := getD_le h (i + 1)
  have := getD_le h (i + 2)
  unfold num3
  omega

theorem read_gen (b off L c : Nat) (bs : List Nat) (w : World) (h : By w (.slice (some ⟨b, off, none⟩) L c) bs) (hl : bs.length = L) (h0 : 1 ≤ L) (hL : L ≤ 5000) :
    Calls Try.prog 61 #[.slice (some ⟨b, off, none⟩) L c] w (RdRes bs w) := by
  by_cases h7 : 7 ≤ L ∧ bs.getD 0 0 = 1
  · obtain ⟨h7, hb0⟩ := h7
    have hst : st bs = some (⟨num3 bs 1, num3 bs 4, []⟩, 7) := by
      unfold st
      rw [if_neg (by omega), if_pos hb0, if_neg (by omega)]
    have hbs : bs = [1] ++ num (num3 bs 1) ++ num (num3 bs 4) ++ bs.drop 7 := by
      have ht7 := take7 (b := bs) (by omega)
      rw [hb0] at ht7
      rw [num_num3 h.1, num_num3 h.1]
      exact ht7
    have hgd : good ⟨num3 bs 1, num3 bs 4, []⟩ = decide (1 ≤ num3 bs 4 ∧ num3 bs 4 ≤ 65536 ∧ num3 bs 1 ≤ 65536) := by
      rw [Bool.eq_iff_iff]
      simp [good]
    obtain ⟨q, hq⟩ : ∃ q, decide (1 ≤ num3 bs 4 ∧ num3 bs 4 ≤ 65536 ∧ num3 bs 1 ≤ 65536) = q := ⟨_, rfl⟩
    have hby := h
    rw [hbs] at hby
    refine (read_cpy_wide b off L c (num3 bs 1) (num3 bs 4) (bs.drop 7) w hby q hq (num3_le h.1 _) (num3_le h.1 _) (by omega)).mono ?_
    rintro e w' ⟨rfl, hb⟩
    rw [hq] at hgd
    cases q
    · exact .inr ⟨.inr ⟨_, _, hst, hgd⟩, _, _, _, rfl, hb⟩
    · exact .inl ⟨_, _, _, hst, hgd, rfl, ⟨by simp, .inl ⟨rfl, rfl⟩⟩, fun _ _ _ _ e => (by cases e), hb⟩
  · by_cases h4 : 4 ≤ L ∧ bs.getD 0 0 = 0
    · obtain ⟨h4, hb0⟩ := h4
      by_cases hK : 1 ≤ num3 bs 1 ∧ num3 bs 1 ≤ L - 4
      · have hst : st bs = some (⟨0, 0, (bs.drop 4).take (num3 bs 1)⟩, 4 + num3 bs 1) := by
          unfold st
          rw [if_neg (by omega), if_neg (by omega), if_pos hb0, if_neg (by omega)]
        have hd : ((bs.drop 4).take (num3 bs 1)).length = num3 bs 1 := by simp; omega
        have hbs : bs = [0] ++ num (num3 bs 1) ++ (bs.drop 4).take (num3 bs 1) ++ bs.drop (4 + num3 bs 1) := by
          have ht4 := take4 (b := bs) (by omega)
          rw [hb0] at ht4
          have h5 : bs.drop 4 = (bs.drop 4).take (num3 bs 1) ++ bs.drop (4 + num3 bs 1) := by
            rw [← List.drop_drop]
            exact (List.take_append_drop _ _).symm
          rw [num_num3 h.1]
          refine ht4.trans ?_
          conv => lhs; rw [h5]
          simp
        have hgd : good ⟨0, 0, (bs.drop 4).take (num3 bs 1)⟩ = true := by
          simp only [good, hd, Bool.or_eq_true, decide_eq_true_eq]
          exact .inr ⟨trivial, trivial, hK.1⟩
        have hby := h
        rw [hbs] at hby
        refine (read_ins_wide b off L c (num3 bs 1) _ (bs.drop (4 + num3 bs 1)) w hby hd hK.1 (by omega) (by omega)).mono ?_
        rintro e w' ⟨B, cc, rfl, hby2, hfar, hb⟩
        exact .inl ⟨_, _, _, hst, hgd, rfl, hby2, fun b off n c e => by
          injection e with e1 _ _
          have := hfar _ e1
          exact this, hb⟩
      · have hc : num3 bs 1 < 1 ∨ L - 4 < num3 bs 1 := by omega
        refine (read_no2 b off L c bs w h hl h4 (by omega) hb0 hc).mono ?_
        rintro e w' ⟨rfl, hb⟩
        refine .inr ⟨?_, _, _, _, rfl, hb⟩
        by_cases hlt : bs.length < 4 + num3 bs 1
        · left
          unfold st
          rw [if_neg (by omega), if_neg (by omega), if_pos hb0, if_pos hlt]
        · right
          refine ⟨⟨0, 0, (bs.drop 4).take (num3 bs 1)⟩, 4 + num3 bs 1, ?_, ?_⟩
          · unfold st
            rw [if_neg (by omega), if_neg (by omega), if_pos hb0, if_neg hlt]
          · have : num3 bs 1 = 0 := by omega
            rw [this]
            rfl
    · refine (read_no1 b off L c bs w h hl h0 (by omega) (by omega)).mono ?_
      rintro e w' ⟨rfl, hb⟩
      refine .inr ⟨.inl ?_, _, _, _, rfl, hb⟩
      unfold st
      by_cases h40 : bs.length < 4
      · rw [if_pos h40]
      · rw [if_neg h40]
        by_cases h1 : bs.getD 0 0 = 1
        · rw [if_pos h1, if_pos (by omega)]
        · rw [if_neg h1, if_neg (by omega)]

theorem Lp.lens {b : List Nat} {os : List O} {rest : List Nat} (h : Lp b os rest) : rest.length ≤ b.length := by
  have := h.few
  omega

/-- What Parse hands back. -/
def PsRes (b : List Nat) (w : World) (e : Ending) (w' : World) : Prop :=
  (∃ os A c vs, e = .returned (.tuple #[.slice A os.length c, .int .i64 0]) ∧ Lp b os [] ∧ Good os ∧ OLies w' A os.length os vs ∧ Below w.heap.size w w') ∨
  ((∀ os, Lp b os [] → ¬ Good os) ∧ e = .returned (.tuple #[.slice none 0 0, .int .i64 10]) ∧ Below w.heap.size w w')


set_option maxRecDepth 100000 in
set_option maxHeartbeats 4000000 in
theorem parse_gen (A : Option Addr) (L c : Nat) (bs : List Nat) (w : World) (h : By w (.slice A L c) bs) (hl : bs.length = L) (hL : L ≤ 4500) :
    Calls Try.prog 29 #[.slice A L c] w (PsRes bs w) := by
  obtain ⟨i0, hi, hz0, hz1, hz2⟩ := info_parts5 zinfo54
  have HI := Lib.hid hi
  have HI0 := Lib.hid hz0
  have HI1 := Lib.hid hz1
  have HI2 := Lib.hid hz2
  have HBY := Lib.hid h
  have HL := Lib.hid hl
  clear hi hz0 hz1 hz2 h hl
  go_enter Try.func29, Try.ntmps29
  go_wp2_with fail
  go_loopw [0, 4] (fun bv v wr => ∃ (ps : List (O × Value)) (rest : List Nat) (A' : Option Addr) (L' c' : Nat), bv = .slice A' L' c' ∧ Lp bs (ps.map (·.1)) rest ∧ By w bv rest ∧ rest.length = L' ∧ L' ≤ 4500 ∧ (∀ p ∈ ps, good p.1 = true) ∧ ps.length ≤ 200 ∧ St w ps v wr) (fun bv _ _ => match bv with | .slice _ n _ => n | _ => 0)
  case atStart => exact ⟨[], bs, A, L, c, rfl, .nil _, HBY.out, HL.out, hL, fun p hp => by simp at hp, by simp, ⟨World.ownsRow_nil _ _ _ _, fun p hp => by simp at hp, fun p hp => by simp at hp, Below.refl _ _⟩⟩
  case round =>
    obtain ⟨ps, rest, A', L', c', rfl, hlp, hby, hrl, hL', hgd, hn2, hst⟩ := hrel
    obtain ⟨Av, cv, ev, _⟩ := hst.olies
    subst ev
    have HST := Lib.hid hst
    have HLP := Lib.hid hlp
    have HGD := Lib.hid hgd
    by_cases h0 : 0 < L'
    · obtain ⟨b, off, rfl, hcap, _, _⟩ := hby.cells hrl h0
      have HRD := Lib.hid (read_gen b off L' c' rest wr (hby.below hst.bl) hrl (by omega) (by omega))
      have HBR := Lib.hid hby
      have HRL := Lib.hid hrl
      have p0 : (0 : Int) < (L' : Int) := by omega
      clear hlp hby hrl hgd hst
      go_wp2_with fail
      refine HRD.out.mono ?_
      rintro e w3 (⟨o, k, v2, hso, hgo, rfl, hbyd, hfar, hb3⟩ | ⟨hno, F, S, z, rfl, hb3⟩)
      · obtain ⟨B, cc, hv2⟩ := hbyd.form
        subst hv2
        have hsz := st_size hso
        rw [HRL.out] at hsz
        have HS3 := Lib.hid (HST.out.below hb3)
        have HBD := Lib.hid hbyd
        have HFA := Lib.hid hfar
        have HSO := Lib.hid hso
        have HGO := Lib.hid hgo
        have HB3 := Lib.hid (HST.out.bl.trans (hb3.mono HST.out.bl.size))
        have hnext : By w (.slice (if c' = k then some ⟨b, off, none⟩ else some ⟨b, off + k, none⟩) (L' - k) (c' - k)) (rest.drop k) := by
          have h1 := HBR.out
          rw [← List.take_append_drop k rest] at h1
          obtain ⟨b2, off2, e, _, _, h2⟩ := by_more h1 (n := k) (by simp; have := HRL.out; omega) (by omega)
          cases e
          exact h2
        have HNX := Lib.hid hnext
        have p1 : (k : Int) ≤ (L' : Int) := by omega
        have p2 : (0 : Int) ≤ (k : Int) := by omega
        clear hbyd hfar hso hgo hb3 hnext HRD
        by_cases h200 : ps.length = 200
        · have h2i : ((ps.length : Int) == 200) = true := by simp; omega
          have HX : Hid (∀ os, Lp bs os [] → ¬ Good os) := Lib.hid (HLP.out.fails (by rw [HRL.out]; omega) (.inr (.inr (by simp; omega))))
          go_wp2_with fail
          go_ret2
          exact .inr ⟨HX.out, rfl, HB3.out.trans ((box_below w3 _).mono HB3.out.size)⟩
        · have hlen2 : ((ps.length : Int) == 200) = false := beq_eq_false_iff_ne.2 (by omega)
          have HS4 := Lib.hid (HS3.out.below (box_below w3 (.cells #[.int .i64 (o.f : Nat), .int .i64 (o.s : Nat), .slice B o.d.length cc] 54)))
          have HBD4 := Lib.hid (HBD.out.below (box_below w3 (.cells #[.int .i64 (o.f : Nat), .int .i64 (o.s : Nat), .slice B o.d.length cc] 54)))
          go_wp2_with (at_builtin; refine wpList_append_own_at _ rfl (.tmp 27) (.tmp 29) 24 rfl w.heap.size 54 i0 _ 3 40 Try.underlying24 HI.out HI0.out HI1.out HI2.out rfl (by decide) _ ps.length (ocs ps) rfl (HS4.out.row.alloc _) ⟨w3.heap.size + 1, 0, none⟩ 1 1 [.int .i64 (o.f : Nat), .int .i64 (o.s : Nat), .slice B o.d.length cc] rfl rfl (World.news_of_block (cs := #[.int .i64 (o.f : Nat), .int .i64 (o.s : Nat), .slice B o.d.length cc]) (by have := heap_alloc_new (w3.alloc (.cells #[.int .i64 (o.f : Nat), .int .i64 (o.s : Nat), .slice B o.d.length cc] 54)) (.cells #[.int .i64 (o.f : Nat), .int .i64 (o.s : Nat), .slice B o.d.length cc] 54); simpa using this)) (by simp [Value.oneCell']) (by unfold maxLen; omega) (by omega) (by simp; have := HS4.out.bl.size; simp at this; omega) ?_; intro v' w6 hown hgr _ hat; have HOWN := Lib.hid hown; have HGR := Lib.hid hgr; have HAT := Lib.hid hat; clear hown hgr hat)
          refine ⟨⟨ps ++ [(o, .slice B o.d.length cc)], rest.drop k, _, _, _, rfl, ?_, HNX.out, by simp [HRL.out], by omega, ?_, by simp; omega, HS4.out.more (o := o) (dv := .slice B o.d.length cc) HBD4.out ?_ HOWN.out HGR.out HAT.out⟩, ?_⟩
          · rw [List.map_append]
            exact HLP.out.snoc HSO.out
          · intro p hp
            rcases List.mem_append.1 hp with hp | hp
            · exact HGD.out p hp
            · have := List.mem_singleton.1 hp
              subst this
              exact HGO.out
          · intro b' off' n' c2 e e2
            have h1 := HFA.out b' off' n' c2 e
            have h2 := (HST.out.row.lt _ e2).2
            omega
          · show L' - k < L'
            omega
      · have HX : Hid (∀ os, Lp bs os [] → ¬ Good os) := Lib.hid (HLP.out.fails (by rw [HRL.out]; omega) (by rcases hno with h | h; exact .inl h; exact .inr (.inl h)))
        have HB3 := Lib.hid (HST.out.bl.trans (hb3.mono HST.out.bl.size))
        clear hno hb3
        go_wp2_with fail
        go_ret2
        exact .inr ⟨HX.out, rfl, HB3.out.trans ((box_below w3 _).mono HB3.out.size)⟩
    · obtain rfl : L' = 0 := by omega
      obtain rfl : rest = [] := List.eq_nil_of_length_eq_zero hrl
      have HO := Lib.hid hst.olies
      clear hlp hby hrl hgd hst
      go_wp2_with fail
      go_ret2
      obtain ⟨A2, c2, e, hol⟩ := HO.out
      cases e
      have hgl : ∀ o ∈ ps.map (·.1), good o = true := fun o ho => by
        obtain ⟨p, hp, rfl⟩ := List.mem_map.1 ho
        exact HGD.out p hp
      refine .inl ⟨ps.map (·.1), Av, cv, ps.map (·.2), ?_, HLP.out, ⟨by simp; omega, hgl⟩, ?_, HST.out.bl⟩
      · rw [List.length_map]
        rfl
      · rw [List.length_map]
        exact hol

end Go.Proofs.Ytgaliinjjonlmaa.Dt
