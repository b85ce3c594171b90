import Derived.Test.YtlmpbfijgnkpkaaOwC
namespace Go.Proofs.Ytlmpbfijgnkpkaa.Di
open Go.RowKit
open Go.Proofs.Ytlmpbfijgnkpkaa.Tp
set_option linter.unusedVariables false

theorem any_mem (c : List Nat) (q : Nat) : anyB (fun j => c.getD j 0 == q) c.length = true ↔ q ∈ c := by
  rw [any_iff]
  constructor
  · rintro ⟨i, hi, h⟩
    have h := beq_iff_eq.1 h
    rw [List.getD_eq_getElem?_getD, List.getElem?_eq_getElem hi] at h
    rw [← h]
    exact List.getElem_mem hi
  · intro h
    obtain ⟨i, hi, e⟩ := List.getElem_of_mem h
    refine ⟨i, hi, beq_iff_eq.2 ?_⟩
    rw [List.getD_eq_getElem?_getD, List.getElem?_eq_getElem hi]
    exact e
theorem any_not {c : List Nat} {q : Nat} (h : q ∉ c) : anyB (fun j => c.getD j 0 == q) c.length = false := by
  cases ha : anyB (fun j => c.getD j 0 == q) c.length with
  | false => rfl
  | true => exact absurd ((any_mem c q).1 ha) h
def slen : Value → Nat
  | .slice _ n _ => n
  | _ => 0
def WyPost (f : Nat → Int) (n p : Nat) (w : World) (e : Ending) (w' : World) : Prop := ∃ (c : List Nat) (A : Option Addr) (cc : Nat), e = .returned (.slice A c.length cc) ∧ Wy f n p c ∧ w'.ownsRow w.heap.size 3 1 (.slice A c.length cc) c.length (iv c) ∧ Below w.heap.size w w'

set_option maxRecDepth 100000 in
set_option maxHeartbeats 1000000 in
theorem way_any (n : Nat) (l : List Sw) (p : Nat) (t : Int) (A : Option Addr) (cc : Nat) (w : World) (h : Row w 0 3 A l.length (sv l)) (hso : SOk n l) (hp : p < n) (hn : n ≤ 1000) :
    Calls Try.prog 36 #[.slice A l.length cc, .int .i64 (p : Int), .int .i64 t] w (WyPost (fun q => stw l q t) n p w) := by
  have H := Lib.hid h
  have hm := hso.m
  have HRG := Lib.hid (show ∀ q : Nat, stw l q t = -1 ∨ (0 ≤ stw l q t ∧ stw l q t < n) from fun q => stw_rng hso q t)
  have HST := Lib.hid (show ∀ (q : Nat) w', Row w' 0 3 A l.length (sv l) → Calls Try.prog 34 #[.slice A l.length cc, .int .i64 (q : Int), .int .i64 t] w' fun e w'' => e = .returned (.int .i64 (stw l q t)) ∧ Below w'.heap.size w' w'' from fun q w' hw => steward_any l q t A cc w' hw (by omega))
  obtain ⟨f, hf⟩ : ∃ f : Nat → Int, (fun q : Nat => stw l (q : Int) t) = f := ⟨_, rfl⟩
  have hfq : ∀ q : Nat, stw l q t = f q := fun q => by rw [← hf]
  rw [hf]
  simp only [hfq] at HRG HST
  have HW := Lib.hid (show Wu f n p [] (p : Int) from Wu.start hp)
  clear h hso hf hfq
  obtain ⟨i0, hi1, hz0, hz1, hz2⟩ := info_parts zinfo3
  have HI := Lib.hid hi1
  have HI0 := Lib.hid hz0
  have HI1 := Lib.hid hz1
  have HI2 := Lib.hid hz2
  clear hi1 hz0 hz1 hz2
  go_enter Try.func36, Try.ntmps36
  go_wp2_with fail
  go_loopw [1, 7] (fun pv ov wr => ∃ (c : List Nat) (q : Int), pv = .int .i64 q ∧ Wu f n p c q ∧ wr.ownsRow w.heap.size 3 1 ov c.length (iv c) ∧ Below w.heap.size w wr) (fun _ ov _ => n - slen ov)
  case atStart => exact ⟨[], p, rfl, HW.out, own_nil _ _ _ _, Below.refl _ _⟩
  case round =>
    obtain ⟨c, q, rfl, hwu, hown, hbl⟩ := hrel
    obtain ⟨A', cc', rfl⟩ := own_form hown
    have HWU := Lib.hid hwu
    have HO := Lib.hid hown
    have HBL := Lib.hid hbl
    have hcl := hwu.len
    by_cases hq : q = -1
    · have e1 : (q != -1) = false := by rw [hq]; rfl
      have HD := Lib.hid (hwu.done (.inl hq))
      clear hwu hown hbl hq
      go_wp2_with fail
      go_ret
      exact ⟨c, A', cc', rfl, HD.out, HO.out, HBL.out⟩
    · have hq2 := hwu.rg.resolve_left hq
      obtain ⟨r, rfl⟩ : ∃ r : Nat, q = r := ⟨q.toNat, by omega⟩
      have e1 : ((r : Int) != -1) = true := by rw [bne, beq_eq_false_iff_ne.2 hq]; rfl
      have HC := Lib.hid (contains_any c r A' c.length cc' wr ((row_of_own hown).base (Nat.zero_le _)) (by omega))
      by_cases hmem : r ∈ c
      · rw [(any_mem c r).2 hmem] at HC
        have HD := Lib.hid (hwu.done (.inr (by simpa using hmem)))
        clear hwu hown hbl hq hmem
        go_wp2_with (go_at_call 47; refine HC.out.mono ?_; rintro e wa ⟨rfl, rfl⟩)
        go_ret
        exact ⟨c, A', cc', rfl, HD.out, HO.out, HBL.out⟩
      · rw [any_not hmem] at HC
        have hnx := hwu.next HRG.out hq (by simpa using hmem)
        have hln := hnx.len
        rw [List.length_append, List.length_singleton] at hln
        have e2 : ((r : Int)).toNat = r := by omega
        rw [e2] at hnx
        have HNX := Lib.hid hnx
        have HLN := Lib.hid hln
        have HIX := Lib.hid (iv_snoc c r)
        have hsz := hbl.size
        clear hwu hown hbl hq hmem hnx e2
        go_wp2_with (first
          | (go_at_call 47; refine HC.out.mono ?_; rintro e wa ⟨rfl, rfl⟩)
          | (at_builtin; refine wpList_append_own _ rfl (.tmp 16) (.tmp 18) 22 rfl w.heap.size 3 i0 (.int .i64 0) 1 8 Try.underlying22 HI.out HI0.out HI1.out HI2.out rfl (by decide) _ c.length (iv c) rfl (HO.out.alloc _) ⟨_, 0, none⟩ 1 1 [.int .i64 (r : Int)] rfl rfl (World.news_of_block (heap_alloc_new _ _)) (by simp [Value.oneCell']) (by unfold maxLen; omega) (by omega) (by simp; omega) ?_; intro v' w6 hown hgr _; have HB6 := Lib.hid (far_below HBL.out HO.out hgr (Nat.le_refl _)); have HO6 := Lib.hid hown; clear hown hgr)
          | (go_at_call 34; refine (HST.out _ _ (H.out.below HB6.out)).mono ?_; rintro e w7 ⟨rfl, hb7⟩; have HB7 := Lib.hid (HB6.out.trans (hb7.mono HB6.out.size)); have HO7 := Lib.hid (own_below HO6.out hb7); clear hb7))
        refine ⟨⟨c ++ [r], f r, rfl, HNX.out, ?_, HB7.out⟩, ?_⟩
        · rw [HIX.out, List.length_append]; exact HO7.out
        · obtain ⟨A7, c7, e7⟩ := own_form HO7.out
          have := HLN.out
          rw [e7]
          simp only [slen]
          omega

set_option maxRecDepth 100000 in
set_option maxHeartbeats 1000000 in
theorem way20_any (B : Nat) (d : Dy) (v : Vd) (l : List Sw) (A : Option Addr) (cc : Nat) (p : Nat) (t : Int) (w : World) (h : DL w B d v) (hs : Row w 0 3 A l.length (sv l)) (hok : Ok d) (hso : SOk d.k.length l) (hp : p < d.k.length) :
    Calls Try.prog 20 #[.agg (gd d v), .slice A l.length cc, .int .i64 (p : Int), .int .i64 t] w (WyPost (fun q => stw l q t) d.k.length p w) := by
  have HB0 := Lib.hid (box_below w (.cells (gd d v) 25))
  have HR0 := Lib.hid (heap_alloc_new w (.cells (gd d v) 25))
  have hn := hok.n
  have HS := Lib.hid hs
  have HCK := Lib.hid (check13_any B d v l A cc (w.alloc (.cells (gd d v) 25)) (h.below HB0.out) (hs.below HB0.out) hok hso)
  have HF := Lib.hid (show (#[.slice v.A1 d.k.length v.c1, .slice v.A2 d.e.length v.c2] : Array Value) = gd d v from rfl)
  have hex := fun w' => exists30_any d v p w'
  rw [decide_eq_true hp] at hex
  have HWY := Lib.hid (fun w' (hw : Row w' 0 3 A l.length (sv l)) => way_any d.k.length l p t A cc w' hw hso hp (by omega))
  simp only [gd] at hex HCK
  have HEX := Lib.hid hex
  obtain ⟨c0, c1⟩ := gdCells HR0.out
  clear h hok hs hso hex hp
  go_enter Try.func20, Try.ntmps20
  go_wp2_with (first
    | (go_at_call 13; refine HCK.out.mono ?_; rintro e w1 ⟨rfl, hb1⟩; have HB1 := Lib.hid (HB0.out.trans (hb1.mono HB0.out.size)); obtain ⟨c0, c1⟩ := gdCells ((hb1.block _ (row_lt HR0.out)).trans HR0.out); clear hb1)
    | (go_at_call 30; refine (HEX.out _).mono ?_; rintro e w2 ⟨rfl, hb2⟩; have HB2 := Lib.hid (HB1.out.trans (hb2.mono HB1.out.size)); clear hb2))
  refine (HWY.out _ (HS.out.below HB2.out)).mono ?_
  rintro e w3 ⟨c, A3, c3, rfl, hwy, hown, hb3⟩
  have HB3 := Lib.hid (HB2.out.trans (hb3.mono HB2.out.size))
  have HW3 := Lib.hid hwy
  have HO3 := Lib.hid (own_base hown (show w.heap.size ≤ w2.heap.size from HB2.out.size))
  clear hwy hown hb3
  go_wp2_with fail
  go_ret
  exact ⟨c, A3, c3, rfl, HW3.out, HO3.out, HB3.out⟩

end Go.Proofs.Ytlmpbfijgnkpkaa.Di
