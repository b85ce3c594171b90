import Derived.Test.YtfdmneceecaocaaCoF
import Derived.Test.YtfdmneceecaocaaCoC
namespace Go.Proofs.Ytfdmneceecaocaa.Di
open Go.RowKit
open Go.Proofs.Ytfdmneceecaocaa.Tp
set_option linter.unusedVariables false
set_option linter.unusedSimpArgs false

theorem zinfo66 : (Try.prog.info? 66).map (fun i => (i.zero, i.size, i.bytes)) = some (some (.agg #[.int .i64 0, .int .i64 0, .int .i64 0]), 3, 24) := by kernel_rfl
/-- Which place a content is in, at which time. -/
def wq (a : Es) (c : Int) (T : List Nat) (p i : Nat) : Bool := wB a c ((T.getD i 0 : Nat) : Int) p
noncomputable def stL (a : Es) (c : Int) (n : Nat) : List Sy := sA (wq a c (tms a)) (tms a) n
theorem sI_succ (L0 : List Sy) (p : Int) (q : Nat → Bool) (T : List Nat) (i : Nat) : sI L0 p q T (i + 1) = if q i && !bf q i then sI L0 p q T i ++ [⟨p, (T.getD i 0 : Nat), 1099511627777⟩] else if bf q i && !q i then setL (sI L0 p q T i) (T.getD i 0 : Nat) else sI L0 p q T i := rfl
def StPost (L : List Sy) (w : World) (e : Ending) (w' : World) : Prop := ∃ A cc, e = .returned (.slice A L.length cc) ∧ w'.ownsRow w.heap.size 66 3 (.slice A L.length cc) L.length (sv L) ∧ Below w.heap.size w w'
set_option maxRecDepth 100000 in
set_option maxHeartbeats 4000000 in
theorem stays_any (a : Es) (v : Ve) (c : Int) (n : Nat) (w : World) (h : EL w 0 a v) (hok : Eok a) (hn : a.n = (n : Int)) (hc : 0 ≤ c ∧ c < 64) :
    Calls Try.prog 38 #[.agg (ge a v), .int .i64 c] w (StPost (stL a c n) w) := by
  have hn16 := hok.n16
  have hn6 : n ≤ 16 := by omega
  have HB0 := Lib.hid (box_below w (.cells (ge a v) 25))
  have HR0 := Lib.hid (heap_alloc_new w (.cells (ge a v) 25))
  obtain ⟨c0, c1⟩ := geCells HR0.out
  have hck := check_any a v _ (Row.below h HB0.out)
  rw [ck_ok hok] at hck
  have HCK := Lib.hid hck
  have HCY := Lib.hid (fun w' => content_yes hc w')
  have hti := (fun w' (hb : Below w.heap.size w w') => times_any a v w' (Row.below h hb))
  unfold TmPost at hti
  have HWH := Lib.hid (fun (t : Int) w' (hb : Below w.heap.size w w') => where_any a v c t n w' (Row.below h hb) hok hn hc)
  have HF := Lib.hid (show (#[.int .i64 a.n, .slice v.A a.e.length v.c] : Array Value) = ge a v from rfl)
  have htl := tms_len a
  have HAN := Lib.hid hn
  unfold stL
  have hwq : ∀ p i, wq a c (tms a) p i = wB a c (((tms a).getD i 0 : Nat) : Int) p := fun p i => rfl
  generalize wq a c (tms a) = q at *
  generalize tms a = T at *
  have HTI := Lib.hid hti
  clear hti
  obtain ⟨i0, hi1, hz0, hz1, hz2⟩ := info_parts zinfo22
  have HI := Lib.hid hi1
  have HI0 := Lib.hid hz0
  have HI1 := Lib.hid hz1
  have HI2 := Lib.hid hz2
  obtain ⟨j0, hj1, hy0, hy1, hy2⟩ := info_parts zinfo66
  have HJ := Lib.hid hj1
  have HJ0 := Lib.hid hy0
  have HJ1 := Lib.hid hy1
  have HJ2 := Lib.hid hy2
  clear hck h hok hc hn hi1 hz0 hz1 hz2 hj1 hy0 hy1 hy2
  unfold StPost
  go_enter Try.func38, Try.ntmps38
  go_wp2_with (first
    | (go_at_call 18; rw [HF.out]; refine HCK.out.mono ?_; rintro e w1 ⟨rfl, hb1⟩; have HB1 := Lib.hid (HB0.out.trans (hb1.mono HB0.out.size)); have M1 := Lib.hid ((hb1.block _ (row_lt HR0.out)).trans HR0.out); clear hb1 c0 c1; obtain ⟨c0, c1⟩ := geCells M1.out)
    | (go_at_call 62; (with_reducible refine (HCY.out _).mono ?_); rintro e wq ⟨rfl, rfl⟩)
    | (go_at_call 21; rw [HF.out]; refine (HTI.out _ HB1.out).mono ?_; rintro e w2 ⟨At, ct, rfl, hown, hb2⟩; have HT := Lib.hid ((row_of_own hown).base (Nat.zero_le _)); have HB2 := Lib.hid (HB1.out.trans (hb2.mono HB1.out.size)); have M2 := Lib.hid ((hb2.block _ (row_lt M1.out)).trans M1.out); clear hown hb2 c0 c1))
  have HWQ := Lib.hid hwq
  clear hwq
  obtain ⟨m, hm⟩ : ∃ m, T.length = m := ⟨_, rfl⟩
  have HM := Lib.hid hm
  rw [hm] at HT htl ⊢
  clear hm
  obtain ⟨f, hf⟩ : ∃ f : Nat → List Nat, (fun i => idx (wB a c ((T.getD i 0 : Nat) : Int)) n) = f := ⟨_, rfl⟩
  have HFF := Lib.hid (fun i => show f i = idx (wB a c ((T.getD i 0 : Nat) : Int)) n by rw [← hf])
  clear hf
  go_loopw [6, 27] (fun ov ii wr => ∃ (k : Nat) (A' : Option Addr) (c' : Nat) (hh : Nat → Option Addr) (cc : Nat → Nat), k ≤ m ∧ ov = .slice A' k c' ∧ ii = .int .i64 (k : Int) ∧ WL wr w2.heap.size A' k c' hh cc f ∧ Below w2.heap.size w2 wr) (fun _ ii _ => m - (intOf ii).toNat)
  case atStart => exact ⟨0, none, 0, fun _ => none, fun _ => 0, by omega, rfl, rfl, ⟨own_nil _ _ _ _, fun p hp => absurd hp (by omega)⟩, Below.refl _ _⟩
  case round =>
    obtain ⟨k, A', c', hh, cc, hk, rfl, rfl, hwl, hbl⟩ := hrel
    have HWL := Lib.hid hwl
    have HBL := Lib.hid hbl
    have hsz := hbl.size
    have MR := Lib.hid ((hbl.block _ (row_lt M2.out)).trans M2.out)
    obtain ⟨c0, c1⟩ := geCells MR.out
    clear hwl hbl
    by_cases hlt : k < m
    · have k0 : (0 : Int) ≤ (k : Int) := by omega
      have k1 : (k : Int) < (m : Int) := by omega
      obtain ⟨b, off, hA, -, -, y0⟩ := (HT.out.below HBL.out).int hlt
      subst hA
      have HWK := Lib.hid (HWH.out ((T.getD k 0 : Nat) : Int) wr (HB2.out.trans (HBL.out.mono HB2.out.size)))
      have HFK := Lib.hid (HFF.out k)
      go_wp2_with (first
        | (go_at_call 35; rw [HF.out]; refine HWK.out.mono ?_; rintro e w3 ⟨X, xc, rfl, hown3, hb3⟩; have B3 := Lib.hid (HBL.out.trans (hb3.mono HBL.out.size)); have W3 := Lib.hid (HWL.out.below hb3); have O3 := Lib.hid (own_base hown3 hsz); have hs3 := B3.out.size; clear hown3 hb3 c0 c1)
        | (at_builtin; refine wpList_append_own _ rfl (.tmp 31) (.tmp 36) 84 rfl w2.heap.size 22 i0 (.slice none 0 0) 1 24 Try.underlying84 HI.out HI0.out HI1.out HI2.out rfl (by decide) _ k (rl (fun p => Value.slice (hh p) (f p).length (cc p)) k) rfl (W3.out.out.alloc _) ⟨w3.heap.size, 0, none⟩ 1 1 [.slice X (cnt (wB a c ((T.getD k 0 : Nat) : Int)) n) xc] rfl rfl (World.news_of_block (heap_alloc_new w3 _)) (by simp [Value.oneCell']) (by unfold maxLen; omega) (by omega) (by simp; omega) ?_; intro v' w6 hown6 hgr _; obtain ⟨A6, c6, rfl⟩ := own_form hown6; have B6 := Lib.hid ((B3.out.trans ((box_below _ _).mono B3.out.size)).grown hgr (by simp; omega) (fun g e => (W3.out.out.lt g e).1)); have W6 := Lib.hid (WL.snoc W3.out (f := f) (X := X) (c := xc) (by rw [HFK.out, idx_len]; exact O3.out) (Nat.le_refl _) hgr (by rw [HFK.out, idx_len]; exact hown6)); clear hown6 hgr))
      exact ⟨⟨k + 1, A6, c6, _, _, by omega, rfl, by go_num, W6.out, B6.out⟩, by simp [intOf]; omega⟩
    · obtain rfl : k = m := by omega
      have hn2 := HAN.out
      go_wp2_with fail
      rename World => wv
      have HBV := Lib.hid (HB2.out.trans (HBL.out.mono HB2.out.size))
      have HTV := Lib.hid (HT.out.below HBL.out)
      have HCT := Lib.hid (fun (i p : Nat) (hp : p < n) w' (hb : Below wv.heap.size wv w') (hi : i < k) => (show Calls Try.prog 64 #[.slice (hh i) (f i).length (cc i), .int .i64 (p : Int)] w' fun e w2 => e = .returned (.bool (q p i)) ∧ w2 = w' from by
        have h1 := contains_any (f i) p (hh i) (f i).length (cc i) w' ((row_of_own ((HWL.out.below hb).row i hi)).base (Nat.zero_le _)) (by rw [HFF.out, idx_len]; have := cnt_le (wB a c ((T.getD i 0 : Nat) : Int)) n; omega)
        have h2 : anyB (fun j => (f i).getD j 0 == p) (f i).length = q p i := by
          rw [HFF.out, idx_len, has_idx _ _ _ hp, HWQ.out]
        rw [h2] at h1
        exact h1))
      have HCL := Lib.hid (fun (i : Nat) w' (hb : Below wv.heap.size wv w') (hi : i < k) => (HWL.out.below hb).cell hi)
      have HTL := Lib.hid (fun p (hp : p < n) => (show (sA q T p).length ≤ 1920 from Nat.le_trans (sA_len q T p) (by rw [HM.out]; exact Nat.le_trans (Nat.mul_le_mul (by omega : p ≤ 16) htl) (by omega))))
      clear c0 c1 MR M2 HWH HWQ HFF HWL HTI HCY HCK HB0 HR0 HB1 M1
      go_loopw [9, 41] (fun ov ii wx => ∃ (p : Nat) (A2 : Option Addr) (c2 : Nat), p ≤ n ∧ ov = .slice A2 (sA q T p).length c2 ∧ ii = .int .i64 (p : Int) ∧ wx.ownsRow wv.heap.size 66 3 (.slice A2 (sA q T p).length c2) (sA q T p).length (sv (sA q T p)) ∧ Below wv.heap.size wv wx) (fun _ ii _ => n - (intOf ii).toNat)
      case atStart => exact ⟨0, none, 0, by omega, rfl, rfl, own_nil _ _ _ _, Below.refl _ _⟩
      case round =>
        obtain ⟨p, A2, c2, hp, rfl, rfl, hown, hbl⟩ := hrel
        rename World => wp
        have HOP := Lib.hid hown
        have HBP := Lib.hid hbl
        clear hown hbl
        by_cases hlp : p < n
        · have dp : decide ((p : Int) < (n : Int)) = true := decide_eq_true (by omega)
          have hL0 := HTL.out p hlp
          have HSA := Lib.hid (show sA q T (p + 1) = sI (sA q T p) p (q p) T k by rw [sA, HM.out])
          have HSI := Lib.hid (fun i => sI_len (sA q T p) (p : Int) (q p) T i)
          have HSS := Lib.hid (fun i => sI_succ (sA q T p) (p : Int) (q p) T i)
          go_wp2_with fail
          go_loopw [9, 11, 46] (fun ov bv ii wx => ∃ (i : Nat) (A3 : Option Addr) (c3 : Nat), i ≤ k ∧ ov = .slice A3 (sI (sA q T p) p (q p) T i).length c3 ∧ bv = .bool (bf (q p) i) ∧ ii = .int .i64 (i : Int) ∧ wx.ownsRow wv.heap.size 66 3 (.slice A3 (sI (sA q T p) p (q p) T i).length c3) (sI (sA q T p) p (q p) T i).length (sv (sI (sA q T p) p (q p) T i)) ∧ Below wv.heap.size wv wx) (fun _ _ ii _ => k - (intOf ii).toNat)
          case atStart => exact ⟨0, A2, c2, by omega, rfl, rfl, rfl, HOP.out, HBP.out⟩
          case round =>
            obtain ⟨i, A3, c3, hi, rfl, rfl, rfl, hown, hbl⟩ := hrel
            rename World => wz
            obtain ⟨hl1, hl2⟩ := HSI.out i
            have HBZ := Lib.hid hbl
            have hsz2 := hbl.size
            have hs := HSS.out i
            generalize hL : sI (sA q T p) p (q p) T i = L at *
            obtain ⟨ll, hll⟩ : ∃ ll, L.length = ll := ⟨_, rfl⟩
            rw [hll] at hown hl1 hl2 ⊢
            have HLL := Lib.hid hll
            have HLI := Lib.hid hL
            have HOZ := Lib.hid hown
            clear hown hbl hL hll
            by_cases hlt : i < k
            · have k0 : (0 : Int) ≤ (i : Int) := by omega
              have k1 : (i : Int) < (k : Int) := by omega
              obtain ⟨b, off, hA, -, -, y0⟩ := (HTV.out.below HBZ.out).int hlt
              subst hA
              obtain ⟨G, hG, cz⟩ := HCL.out i wz HBZ.out hlt
              subst hG
              have HCN := Lib.hid (HCT.out i p hlp wz HBZ.out hlt)
              generalize T.getD i 0 = t at *
              obtain ⟨lf, hlf⟩ : ∃ lf, (f i).length = lf := ⟨_, rfl⟩
              rw [hlf] at cz HCN
              have hbs := bf_succ (q p) i
              have HBS := Lib.hid hbs
              cases hq : q p i with
              | true =>
                rw [hq] at HCN hbs hs
                cases hb : bf (q p) i with
                | true =>
                  rw [hb] at hs
                  have HS := Lib.hid (show sI (sA q T p) p (q p) T (i + 1) = L from hs)
                  have HBS2 := Lib.hid hbs
                  clear hs hq hb hbs
                  go_wp2_with (go_at_call 64; refine HCN.out.mono ?_; rintro e w8 ⟨rfl, rfl⟩)
                  exact ⟨⟨i + 1, A3, c3, by omega, by rw [HS.out, HLL.out], by rw [HBS2.out], by go_num, by rw [HS.out, HLL.out]; exact HOZ.out, HBZ.out⟩, by simp [intOf]; omega⟩
                | false =>
                  rw [hb] at hs
                  have HS := Lib.hid (show sI (sA q T p) p (q p) T (i + 1) = L ++ [⟨p, t, 1099511627777⟩] from hs)
                  have HBS2 := Lib.hid hbs
                  have HSV := Lib.hid (sv_snoc L ⟨p, t, 1099511627777⟩)
                  clear hs hq hb hbs
                  go_wp2_with (first
                    | (go_at_call 64; refine HCN.out.mono ?_; rintro e w8 ⟨rfl, rfl⟩)
                    | (at_builtin; refine wpList_append_own _ rfl (.tmp 62) (.tmp 66) 56 rfl wv.heap.size 66 j0 (.agg #[.int .i64 0, .int .i64 0, .int .i64 0]) 3 24 Try.underlying56 HJ.out HJ0.out HJ1.out HJ2.out rfl (by decide) _ ll (sv L) rfl (HOZ.out.alloc _) ⟨w8.heap.size, 0, none⟩ 1 1 [.int .i64 (p : Int), .int .i64 (t : Int), .int .i64 1099511627777] rfl rfl (World.news_of_block (heap_alloc_new w8 _)) (by simp [Value.oneCell']) (by unfold maxLen; omega) (by omega) (by simp; omega) ?_; intro v' w6 hown6 hgr _; obtain ⟨A6, c6, rfl⟩ := own_form hown6; have O6 := Lib.hid hown6; have B6 := Lib.hid ((HBZ.out.trans ((box_below _ _).mono HBZ.out.size)).grown hgr (by simp; omega) (fun g e => (HOZ.out.lt g e).1)); clear hown6 hgr))
                  exact ⟨⟨i + 1, A6, c6, by omega, by rw [HS.out, List.length_append, HLL.out]; rfl, by rw [HBS2.out], by go_num, by rw [HS.out, List.length_append, HLL.out, HSV.out]; exact O6.out, B6.out⟩, by simp [intOf]; omega⟩
              | false =>
                rw [hq] at HCN hbs hs
                cases hb : bf (q p) i with
                | true =>
                  rw [hb] at hs
                  have hl3 := hl2 hb
                  obtain ⟨L', x, rfl⟩ := list_snoc (by rw [HLL.out]; exact hl3 : 0 < L.length)
                  have HS := Lib.hid (show sI (sA q T p) p (q p) T (i + 1) = L' ++ [⟨x.p, x.f, t⟩] from hs.trans (setL_app L' x t))
                  have HBS2 := Lib.hid hbs
                  obtain ⟨G3, hG3⟩ := own_some HOZ.out hl3
                  subst hG3
                  have hle := HLL.out
                  rw [List.length_append, List.length_singleton] at hle
                  subst hle
                  obtain ⟨z1, z2, z3, z4⟩ := own_putS (u := .int .i64 (t : Int)) HOZ.out (p := L'.length * 3 + 2) (by omega)
                  rw [sv_snoc, List.getElem?_append_right (by rw [sv_len]; omega), sv_len, show L'.length * 3 + 2 - L'.length * 3 = 2 by omega] at z1
                  replace z1 : World.cell? _ _ = some (.int .i64 x.u) := z1
                  rw [sv_set] at z3
                  have Z3 := Lib.hid z3
                  have Z4 := Lib.hid (HBZ.out.grown z4 HBZ.out.size (fun g e => by cases e; exact (HOZ.out.lt G3 rfl).1))
                  clear hs hq hb hbs z3 z4
                  generalize hl' : L'.length = l' at *
                  have HLE := Lib.hid hl'
                  clear hl'
                  have l0 : (0 : Int) ≤ (l' : Int) := by omega
                  have l1 : (l' : Int) < ((l' + 1 : Nat) : Int) := by omega
                  have l2 : IntKind.i64.wrap (((l' + 1 : Nat) : Int) - 1) = (l' : Int) := by rw [show (((l' + 1 : Nat) : Int) - 1) = (l' : Int) by omega]; exact IntWalk.i64_in _ (by omega)
                  go_wp2_with (go_at_call 64; refine HCN.out.mono ?_; rintro e w8 ⟨rfl, rfl⟩)
                  exact ⟨⟨i + 1, some ⟨G3, 0, none⟩, c3, by omega, by rw [HS.out, List.length_append, HLE.out]; rfl, by rw [HBS2.out], by go_num, by rw [HS.out, List.length_append, HLE.out]; exact Z3.out, Z4.out⟩, by simp [intOf]; omega⟩
                | false =>
                  rw [hb] at hs
                  have HS := Lib.hid (show sI (sA q T p) p (q p) T (i + 1) = L from hs)
                  have HBS2 := Lib.hid hbs
                  clear hs hq hb hbs
                  go_wp2_with (go_at_call 64; refine HCN.out.mono ?_; rintro e w8 ⟨rfl, rfl⟩)
                  exact ⟨⟨i + 1, A3, c3, by omega, by rw [HS.out, HLL.out], by rw [HBS2.out], by go_num, by rw [HS.out, HLL.out]; exact HOZ.out, HBZ.out⟩, by simp [intOf]; omega⟩
            · obtain rfl : i = k := by omega
              go_wp2_with fail
              exact ⟨⟨p + 1, A3, c3, by omega, by rw [HSA.out, HLI.out, HLL.out], by go_num, by rw [HSA.out, HLI.out, HLL.out]; exact HOZ.out, HBZ.out⟩, by simp [intOf]; omega⟩
        · obtain rfl : p = n := by omega
          go_wp2_with fail
          go_ret
          exact ⟨A2, c2, by first | rfl | simp, own_base HOP.out HBV.out.size, HBV.out.trans (HBP.out.mono HBV.out.size)⟩

end Go.Proofs.Ytfdmneceecaocaa.Di
