import Derived.Test.YtamcjhibdcbdnaaCAp
import Derived.Test.YtamcjhibdcbdnaaCEv
import Derived.Test.YtamcjhibdcbdnaaCNew
import Derived.Deep.RegionHeld3
namespace Go.Proofs.Ytamcjhibdcbdnaa.Cl
open Go.RowKit
open Go.Proofs.Ytamcjhibdcbdnaa.Tp
set_option linter.unusedVariables false

theorem gb_far1 {a b : World} {T g i : Nat} {u : Value} (h : a.grownBy b (some T)) (hg : a.heap.size ≤ g) : a.grownBy (b.setCell ⟨g, i, none⟩ u) (some T) :=
  ⟨h.os, h.tape, h.output, by have := h.size; simpa [World.setCell] using this, fun k hk hne => (Below.heap_setCell _ _ _ _ (by show k ≠ g; omega)).trans (h.block k hk hne)⟩
theorem tape_far1 {w : World} {T g i : Nat} {u : Value} (h : TapeOk w T) (hg : T < g) : TapeOk (w.setCell ⟨g, i, none⟩ u) T :=
  tape_kept h (gb_set w g i u) (fun k e => by cases e; exact hg)
theorem gb_far4 {a b : World} {T g : Nat} {p q r s : Value} (h : a.grownBy b (some T)) (hg : a.heap.size ≤ g) : a.grownBy ((((b.setCell ⟨g, 0, none⟩ p).setCell ⟨g, 1, none⟩ q).setCell ⟨g, 2, none⟩ r).setCell ⟨g, 3, none⟩ s) (some T) :=
  gb_far1 (gb_far1 (gb_far1 (gb_far1 h hg) hg) hg) hg
theorem tape_far4 {b : World} {T g : Nat} {p q r s : Value} (h : TapeOk b T) (hg : T < g) : TapeOk ((((b.setCell ⟨g, 0, none⟩ p).setCell ⟨g, 1, none⟩ q).setCell ⟨g, 2, none⟩ r).setCell ⟨g, 3, none⟩ s) T :=
  tape_far1 (tape_far1 (tape_far1 (tape_far1 h hg) hg) hg) hg
theorem gb_alloc2 {a b : World} {T : Nat} (h : a.grownBy b (some T)) (o : Obj) : a.grownBy (b.alloc o) (some T) := gb_trans h (gb_row (gb_of_below (box_below b o)))

theorem new_set (W : World) (o cs : Array Value) (t : TypeId) : (W.alloc (.cells o t)).setRow W.heap.size cs = W.alloc (.cells cs t) := by
  have key : ∀ (f : Obj → Obj) (o : Obj), (W.heap.push o).modify W.heap.size f = W.heap.push (f o) := fun f o => by
    apply Array.ext
    · simp
    · intro i h1 h2
      rw [Array.getElem_modify, Array.getElem_push, Array.getElem_push]
      by_cases hi : i < W.heap.size
      · rw [dif_pos hi, dif_pos hi, if_neg (by omega)]
      · rw [dif_neg hi, dif_neg hi, if_pos (by simp at h1; omega)]
  show ({ W with heap := (W.heap.push _).modify W.heap.size _ } : World) = ({ W with heap := W.heap.push _ } : World)
  rw [key]

/-- No row of the cluster lies in block q. -/
structure NQ (q : Nat) (c : Cl) (v : Vl) : Prop where
  n1 : ∀ b off, 0 < c.s.length → v.A1 = some ⟨b, off, none⟩ → b ≠ q
  n2 : ∀ b off, 0 < c.r.length → v.A2 = some ⟨b, off, none⟩ → b ≠ q
  n3 : ∀ b off, 0 < c.p.length → v.A3 = some ⟨b, off, none⟩ → b ≠ q

theorem Row.setq {w : World} {B s n g : Nat} {A : Option Addr} {xs : List Value} (h : Row w B s A n xs) (hg : ∀ b off, 0 < n → A = some ⟨b, off, none⟩ → b ≠ g) (cs : Array Value) : Row (w.setRow g cs) B s A n xs :=
  ⟨h.len, fun hn => by
    obtain ⟨b, off, e, hB, hlt, hc⟩ := h.mem hn
    exact ⟨b, off, e, hB, by rw [setRow_size]; exact hlt, fun j u hj => (cell_setRow_other _ _ _ _ (hg b off hn e)).trans (hc j u hj)⟩⟩
theorem CL.setq {w : World} {B g : Nat} {c : Cl} {v : Vl} (h : CL w B c v) (hn : NQ g c v) (cs : Array Value) : CL (w.setRow g cs) B c v := ⟨h.r1.setq hn.n1 cs, h.r2.setq hn.n2 cs, h.r3.setq hn.n3 cs⟩
theorem NQ.of_base {w : World} {B g : Nat} {c : Cl} {v : Vl} (h : CL w B c v) (hg : g < B) : NQ g c v := by
  refine ⟨fun b off hn e => ?_, fun b off hn e => ?_, fun b off hn e => ?_⟩
  · obtain ⟨b', off', e', hB, _⟩ := h.r1.mem hn
    rw [e] at e'; cases e'; omega
  · obtain ⟨b', off', e', hB, _⟩ := h.r2.mem hn
    rw [e] at e'; cases e'; omega
  · obtain ⟨b', off', e', hB, _⟩ := h.r3.mem hn
    rw [e] at e'; cases e'; omega
theorem NQ.of_size {w : World} {B g : Nat} {c : Cl} {v : Vl} (h : CL w B c v) (hg : w.heap.size ≤ g) : NQ g c v := by
  refine ⟨fun b off hn e => ?_, fun b off hn e => ?_, fun b off hn e => ?_⟩
  · obtain ⟨b', off', e', _, hB, _⟩ := h.r1.mem hn
    rw [e] at e'; cases e'; omega
  · obtain ⟨b', off', e', _, hB, _⟩ := h.r2.mem hn
    rw [e] at e'; cases e'; omega
  · obtain ⟨b', off', e', _, hB, _⟩ := h.r3.mem hn
    rw [e] at e'; cases e'; omega

def fc (f : Bool) (A1 : Option Addr) (n1 c1 : Nat) (A2 : Option Addr) (n2 c2 : Nat) (A3 : Option Addr) (n3 c3 : Nat) : Array Value := #[.bool f, .slice A1 n1 c1, .slice A2 n2 c2, .slice A3 n3 c3]

theorem fcCells {w : World} {G : Nat} {f : Bool} {A1 : Option Addr} {n1 c1 : Nat} {A2 : Option Addr} {n2 c2 : Nat} {A3 : Option Addr} {n3 c3 : Nat} (h : w.heap[G]? = some (.cells (fc f A1 n1 c1 A2 n2 c2 A3 n3 c3) 25 (0, 0))) :
    w.cell? ⟨G, 0, none⟩ = some (.bool f) ∧ w.cell? ⟨G, 1, none⟩ = some (.slice A1 n1 c1) ∧ w.cell? ⟨G, 2, none⟩ = some (.slice A2 n2 c2) ∧ w.cell? ⟨G, 3, none⟩ = some (.slice A3 n3 c3) := by
  refine ⟨?_, ?_, ?_, ?_⟩ <;> rw [cell_of_row _ _ _ _ _ _ h] <;> rfl

/-- What Apply gives, as cells. -/
def AOut (c : Cl) (x : Ev) (w : World) (cs : Array Value) (er : Int) (w' : World) : Prop :=
  ((fitB c x = true ∧ er = 0 ∧ ∃ v', cs = cv (ap c x) v' ∧ CL w' w.heap.size (ap c x) v') ∨ (fitB c x = false ∧ er = 39 ∧ cs = zC)) ∧ Below w.heap.size w w'

def AForm (c : Cl) (x : Ev) (w : World) (e : Ending) (w' : World) : Prop :=
  ∃ f A1 n1 c1 A2 n2 c2 A3 n3 c3 er, e = .returned (.tuple #[.agg #[.bool f, .slice A1 n1 c1, .slice A2 n2 c2, .slice A3 n3 c3], .int .i64 er]) ∧ AOut c x w (fc f A1 n1 c1 A2 n2 c2 A3 n3 c3) er w'

theorem aform {c : Cl} {x : Ev} {w : World} {e : Ending} {w' : World} (h : APost c x w e w') : AForm c x w e w' := by
  rcases h with ⟨h1, v', rfl, h2, h3⟩ | ⟨h1, rfl, h3⟩
  · exact ⟨_, _, _, _, _, _, _, _, _, _, _, rfl, .inl ⟨h1, rfl, v', rfl, h2⟩, h3⟩
  · exact ⟨_, _, _, _, _, _, _, _, _, _, _, rfl, .inr ⟨h1, rfl, rfl⟩, h3⟩

theorem ok_nw (n b : Nat) (f : Bool) (hn : 1 ≤ n) (hn2 : n ≤ 3) (hb : b ≤ 3) : Ok 0 (nw n b f) := by
  refine ⟨by simp [nw], by simp [nw], by simpa [nw] using hn, by simpa [nw] using hn2, by simp [nw], fun i hi => ?_, fun i hi => ?_, fun i hi => ?_⟩
  · simp [nw] at hi
    subst hi
    exact hb
  · simp [nw] at hi
    show (rd (List.replicate n (0, true)) i).1 < 1
    unfold rd
    rw [List.getD_eq_getElem?_getD]
    simp [hi]
  · simp [nw] at hi

/-- The loop of the maker of clusters. -/
def MRel (T q m0 : Nat) (w : World) (k : Nat) (wr : World) : Prop :=
  ∃ (c : Cl) (v : Vl) (m : Nat), m + k ≤ m0 ∧ Ok m c ∧ wr.heap[q]? = some (.cells (cv c v) 25 (0, 0)) ∧ CL wr (w.heap.size + 1) c v ∧ NQ q c v ∧ TapeOk wr T ∧ w.grownBy wr (some T) ∧ wr.heap[w.heap.size]? = some (.cells zC 25 (0, 0))

def MkPost (T : Nat) (w : World) (e : Ending) (w' : World) : Prop :=
  ∃ (c : Cl) (v : Vl), e = .returned (.agg (cv c v)) ∧ Ok 12 c ∧ CL w' (w.heap.size + 1) c v ∧ w.grownBy w' (some T) ∧ TapeOk w' T

set_option maxRecDepth 100000 in
set_option maxHeartbeats 1000000 in
theorem cluster_any (T : Nat) (w : World) (h : TapeOk w T) (hT : T < w.heap.size) :
    Calls Try.prog 19 #[.pointer (some ⟨T, 0, none⟩)] w (MkPost T w) := by
  have HT := Lib.hid (tape_new2 h (.cells zC 25))
  have HR0 := Lib.hid (heap_alloc_new w (.cells zC 25))
  have HG0 := Lib.hid (gb_row (gb_of_below (box_below w (.cells zC 25))) : w.grownBy _ (some T))
  clear h
  go_enter Try.func19, Try.ntmps19
  go_wp2_with fail
  refine (between_any T 1 3 _ HT.out (by omega) (by omega) (by omega) (by omega)).mono ?_
  rintro e w1 ⟨r, hr0, hr1, rfl, hg1, ht1⟩
  obtain ⟨n, rfl⟩ : ∃ k : Nat, r = k := ⟨r.toNat, by omega⟩
  have HR1 := Lib.hid ((hg1.block w.heap.size (row_lt HR0.out) (by simp; omega)).trans HR0.out)
  have HG1 := Lib.hid (gb_trans HG0.out hg1)
  have HT1 := Lib.hid (tape_new2 ht1 (.cells #[.int .i64 1, .int .i64 1, .int .i64 3, .int .i64 2] 3))
  have hs1 : w.heap.size < w1.heap.size := row_lt HR1.out
  have HPR := Lib.hid (lits_row w1 w1.heap.size rfl [1, 1, 3, 2] #[.int .i64 1, .int .i64 1, .int .i64 3, .int .i64 2] rfl 3)
  clear hg1 ht1
  go_wp2_with fail
  refine (pick_any T w1.heap.size 4 4 _ [1, 1, 3, 2] _ HT1.out HPR.out (by omega) (by omega) (by omega)).mono ?_
  rintro e w2 ⟨r, hr, rfl, hg2, ht2⟩
  have hbits : [1, 1, 3, 2].getD r 0 ≤ 3 := by
    rcases (by simp at hr; omega : r = 0 ∨ r = 1 ∨ r = 2 ∨ r = 3) with rfl | rfl | rfl | rfl <;> decide
  generalize [1, 1, 3, 2].getD r 0 = b at *
  have hgp := gb_trans (gb_row (gb_of_below (box_below w1 (.cells #[.int .i64 1, .int .i64 1, .int .i64 3, .int .i64 2] 3))) : w1.grownBy _ (some T)) hg2
  have HR2 := Lib.hid ((hgp.block w.heap.size hs1 (by simp; omega)).trans HR1.out)
  have HG2 := Lib.hid (gb_trans HG1.out hgp)
  have HT2 := Lib.hid ht2
  clear hg2 ht2 hgp hr
  go_wp2_with fail
  refine (next_any T 2 _ HT2.out (by omega) (by omega)).mono ?_
  rintro e w3 ⟨r, hf0, hf1, rfl, hg3, ht3⟩
  have HR3 := Lib.hid ((hg3.block w.heap.size (row_lt HR2.out) (by simp; omega)).trans HR2.out)
  have HG3 := Lib.hid (gb_trans HG2.out hg3)
  have HT3 := Lib.hid ht3
  clear hg3 ht3
  go_wp2_with fail
  refine (refnew_any n b _ _ (by omega) (by omega) hbits).mono ?_
  rintro e w4 ⟨v, rfl, hcl, hb4⟩
  generalize (r == 1) = f at *
  have hs3 : w.heap.size < w3.heap.size := row_lt HR3.out
  have hok := ok_nw n b f (by omega) (by omega) hbits
  generalize nw n b f = c at *
  have hl4 := hb4.size
  have HOK := Lib.hid hok
  have HR4 := Lib.hid ((heap_alloc_old w4 (.cells (cv c v) 25) (by omega)).trans ((hb4.block w.heap.size hs3).trans HR3.out))
  have HQ := Lib.hid (heap_alloc_new w4 (.cells (cv c v) 25))
  have HC4 := Lib.hid ((hcl.base (show w.heap.size + 1 ≤ w3.heap.size by omega)).below (box_below w4 (.cells (cv c v) 25)))
  have HT4 := Lib.hid (tape_new2 (tape_below HT3.out hb4) (.cells (cv c v) 25))
  have HG4 := Lib.hid (gb_trans (gb_trans HG3.out (gb_row (gb_of_below hb4))) (gb_row (gb_of_below (box_below w4 (.cells (cv c v) 25)))))
  have HN4 := Lib.hid (NQ.of_size hcl (Nat.le_refl _))
  clear hcl hb4 hok hbits
  have hs4 : w.heap.size < w4.heap.size := by omega
  go_wp2_with (refine wpList_store_row rfl 25 (.tmp 3) (.tmp 18) rfl w4.heap.size (cv c v) rfl rfl 25 zC (heap_alloc_new _ _) (info25 _ _) rfl (cv_one _ _) ?_; rw [new_set])
  refine (next_any T 12 _ HT4.out (by omega) (by omega)).mono ?_
  rintro e w5 ⟨r2, hk0, hk1, rfl, hg5, ht5⟩
  obtain ⟨k0, rfl⟩ : ∃ k : Nat, r2 = k := ⟨r2.toNat, by omega⟩
  have HQ5 := Lib.hid ((hg5.block w4.heap.size (row_lt HQ.out) (by simp; omega)).trans HQ.out)
  have HR5 := Lib.hid ((hg5.block w.heap.size (row_lt HR4.out) (by simp; omega)).trans HR4.out)
  have HC5 := Lib.hid (HC4.out.grown hg5 (fun g e => by cases e; omega))
  have HG5 := Lib.hid (gb_trans HG4.out hg5)
  have HT5 := Lib.hid ht5
  clear hg5 ht5
  generalize w4.heap.size = q at *
  go_wp2_with fail
  go_loopw [5] (fun kk wr => ∃ k : Nat, k ≤ 11 ∧ kk = .int .i64 k ∧ MRel T q 11 w k wr) (fun kk _ => (intOf kk).toNat)
  case atStart => exact ⟨k0, by omega, rfl, c, v, 0, by omega, HOK.out, HQ5.out, HC5.out, HN4.out, HT5.out, HG5.out, HR5.out⟩
  case round =>
    clear HOK HQ HC4 HT4 HG4 HQ5 HR5 HC5 HG5 HT5 HR4 HR3 HG3 HT3
    obtain ⟨k, hk, rfl, c, v, m, hm, hok, hq, hcl, hnq, ht, hg, hz⟩ := hrel
    have HNQ := Lib.hid hnq
    have hql : q < wr.heap.size := row_lt hq
    obtain ⟨c0, c1, c2, c3⟩ := cvCells _ _ _ _ _ _ hq
    have HOK := Lib.hid hok
    have HQ := Lib.hid hq
    have HC := Lib.hid hcl
    have HTW := Lib.hid ht
    have HG := Lib.hid hg
    have HZ := Lib.hid hz
    have hsz := hg.size
    clear hok hq hcl hnq ht hg hz
    by_cases h0 : 0 < k
    · have hd : decide ((0 : Int) < (k : Int)) = true := decide_eq_true (by omega)
      have he : ∀ w', TapeOk w' T → T < w'.heap.size → Calls Try.prog 23 #[.pointer (some ⟨T, 0, none⟩), .agg #[.bool c.f, .slice v.A1 c.s.length v.c1, .slice v.A2 c.r.length v.c2, .slice v.A3 c.p.length v.c3]] w' (EPost T c w') := fun w' ht hl => event_any T m c v w' ht hl HOK.out (by omega)
      have ha : ∀ (x : Ev) w', CL w' (w.heap.size + 1) c v → Good c x → Calls Try.prog 25 #[.agg #[.bool c.f, .slice v.A1 c.s.length v.c1, .slice v.A2 c.r.length v.c2, .slice v.A3 c.p.length v.c3], .agg (ec x.k x.i x.q x.b)] w' (AForm c x w') := fun x w' hc hg => (refapply_any m (w.heap.size + 1) c v x w' hc HOK.out (by omega) hg).mono fun _ _ hp => aform hp
      have HE := Lib.hid he
      have HA := Lib.hid ha
      have hTr : T < wr.heap.size := by omega
      have hk : ∀ w', wr.grownBy w' (some T) → TapeOk w' T → (w'.cell? ⟨q, 0, none⟩ = some (.bool c.f) ∧ w'.cell? ⟨q, 1, none⟩ = some (.slice v.A1 c.s.length v.c1) ∧ w'.cell? ⟨q, 2, none⟩ = some (.slice v.A2 c.r.length v.c2) ∧ w'.cell? ⟨q, 3, none⟩ = some (.slice v.A3 c.p.length v.c3) ∧ wr.grownBy w' (some T) ∧ TapeOk w' T) := fun w' hg ht => by
        obtain ⟨k0, k1, k2, k3⟩ := cvCells _ _ _ _ _ _ ((hg.block q hql (by simp; omega)).trans HQ.out)
        exact ⟨k0, k1, k2, k3, hg, ht⟩
      have HK := Lib.hid hk
      have gd : wr.grownBy wr.drew (some T) := gb_drewN wr 1 _
      have td : TapeOk wr.drew T := HTW.out
      have ga0 : wr.grownBy (wr.alloc (.cells zC 25)).drew (some T) := (gb_trans (gb_row (gb_of_below (box_below wr (.cells zC 25)))) (gb_drewN _ 1 _))
      have ta0 : TapeOk (wr.alloc (.cells zC 25)).drew T := tape_new2 HTW.out _
      clear hk
      clear he ha
      go_wp2_with fail
      go_region_held3 (fun w' => w'.cell? ⟨q, 0, none⟩ = some (.bool c.f) ∧ w'.cell? ⟨q, 1, none⟩ = some (.slice v.A1 c.s.length v.c1) ∧ w'.cell? ⟨q, 2, none⟩ = some (.slice v.A2 c.r.length v.c2) ∧ w'.cell? ⟨q, 3, none⟩ = some (.slice v.A3 c.p.length v.c3) ∧ wr.grownBy w' (some T) ∧ TapeOk w' T)
        (first | (with_reducible assumption) | (with_reducible exact HK.out _ gd td) | (with_reducible exact HK.out _ ga ta) | (with_reducible exact HK.out _ gb tb) | (with_reducible exact HK.out _ (gb_alloc2 ga _) (tape_new2 ta _)) | (with_reducible exact HK.out _ (gb_alloc2 gb _) (tape_new2 tb _)) | (with_reducible exact HK.out _ (gb_far4 gb (Nat.le_refl _)) (tape_far4 tb hTr)) | (with_reducible exact HK.out _ (gb_far4 gb (World.grownBy.size ga)) (tape_far4 tb hTa)) | exact HK.out _ ga0 ta0)
        (first
          | (go_at_call 23; (with_reducible refine (HE.out _ ?_ ?_).mono ?_); (go_split_ands; with_reducible assumption); (go_split_ands; exact Nat.lt_of_lt_of_le hTr (World.grownBy.size (by with_reducible assumption))); rintro e wa ⟨x, hgood, rfl, hga, hta⟩; go_split_ands; have ga : wr.grownBy wa (some T) := gb_trans (by with_reducible assumption) hga; have ta := hta; have hTa : T < wa.heap.size := Nat.lt_of_lt_of_le hTr ga.size; have XG := Lib.hid hgood; have GA := Lib.hid ga; (first | (have NA := Lib.hid (show wa.heap[wr.heap.size]? = some (.cells zC 25 (0, 0)) from (hga.block wr.heap.size (by simp) (by simp; omega)).trans (heap_alloc_new wr (.cells zC 25)))) | skip); clear hga hta hgood)
          | (go_at_call 25; (with_reducible refine (HA.out x _ ?_ ?_).mono ?_); (go_split_ands; exact HC.out.grown (row := some T) (by with_reducible assumption) (fun g e => by cases e; omega)); (exact XG.out); rintro e wb ⟨f', B1, n1, d1, B2, n2, d2, B3, n3, d3, er, rfl, hout⟩; go_split_ands; have gb : wr.grownBy wb (some T) := gb_trans (by with_reducible assumption) (gb_row (gb_of_below hout.2)); have tb : TapeOk wb T := tape_below (by with_reducible assumption) hout.2; have HOUT := Lib.hid hout; (first | (have NB := Lib.hid (show wb.heap[wa.heap.size]? = some (.cells zC 25 (0, 0)) from (hout.2.block wa.heap.size (by simp)).trans (heap_alloc_new wa (.cells zC 25))); obtain ⟨y0, y1, y2, y3, y4, y5, y6, y7⟩ := zCells NB.out) | (have NB := Lib.hid (show wb.heap[wr.heap.size]? = some (.cells zC 25 (0, 0)) from (hout.2.block wr.heap.size (row_lt NA.out)).trans NA.out); obtain ⟨y0, y1, y2, y3, y4, y5, y6, y7⟩ := zCells NB.out) | skip); clear hout)
)
      · obtain ⟨W6, hW6⟩ : ∃ W6, wb.alloc (.cells #[.bool f', .slice B1 n1 d1, .slice B2 n2 d2, .slice B3 n3 d3] 25) = W6 := ⟨_, rfl⟩
        rw [hW6]
        have gW : wr.grownBy W6 (some T) := by rw [← hW6]; exact gb_alloc2 gb _
        have tW : TapeOk W6 T := by rw [← hW6]; exact tape_new2 tb _
        have fN : W6.heap[wb.heap.size]? = some (.cells (fc f' B1 n1 d1 B2 n2 d2 B3 n3 d3) 25 (0, 0)) := by rw [← hW6]; exact heap_alloc_new wb _
        have fo : ∀ v' B0, w.heap.size + 1 ≤ B0 → q < B0 → True → CL wb B0 (ap c x) v' → CL W6 (w.heap.size + 1) (ap c x) v' := fun v' B0 h0 _ h1 h2 => by rw [← hW6]; exact (h2.below (box_below _ _)).base h0
        have FO := Lib.hid fo
        have GW := Lib.hid gW
        have TW := Lib.hid tW
        have fq := Lib.hid ((gW.block q hql (by simp; omega)).trans HQ.out)
        have fz := Lib.hid ((gW.block w.heap.size (row_lt HZ.out) (by simp; omega)).trans HZ.out)
        have hB0 := Lib.hid (show w.heap.size + 1 ≤ wa.heap.size ∧ q < wa.heap.size ∧ True from ⟨by have := ga.size; omega, Nat.lt_of_lt_of_le hql ga.size, trivial⟩)
        clear fo gW tW hW6 c0 c1 c2 c3 gd td ga0 ta0
        go_split_ands
        obtain ⟨u0, u1, u2, u3⟩ := fcCells fN
        obtain ⟨q0, q1, q2, q3⟩ := cvCells _ _ _ _ _ _ fq.out
        have qf : ∀ j, W6.frozen? ⟨q, j, none⟩ = false := fun j => frozen_of_row _ _ _ _ _ fq.out
        clear fN
        rcases HOUT.out.1 with ⟨hfit, rfl, v', hcs, hcl⟩ | ⟨hfit, rfl, hcs⟩
        · have HCS := Lib.hid hcs
          have HCX := Lib.hid (FO.out v' _ hB0.out.1 hB0.out.2.1 hB0.out.2.2 hcl)
          have HNX := Lib.hid (NQ.of_base hcl hB0.out.2.1)
          have HFIT := Lib.hid hfit
          clear hcs hcl hfit
          go_wp2_with fail
          rw [set4row (g := q) fq.out rfl, show (#[.bool f', .slice B1 n1 d1, .slice B2 n2 d2, .slice B3 n3 d3] : Array Value) = cv (ap c x) v' from HCS.out]
          exact ⟨⟨k - 1, by omega, congrArg (Value.int .i64) (by omega), ap c x, v', m + 1, by omega, ok_ap HOK.out XG.out HFIT.out, setRow_heap _ _ _ _ _ _ fq.out, HCX.out.setq HNX.out _, HNX.out, tape_set TW.out (by omega) _, gb_far (gb_trans HG.out GW.out) (by omega) _, (setRow_other _ _ _ _ (by omega)).trans fz.out⟩, by simp [intOf]; omega⟩
        · clear hcs hfit
          go_wp2_with fail
          exact ⟨⟨k - 1, by omega, congrArg (Value.int .i64) (by omega), c, v, m, by omega, HOK.out, fq.out, HC.out.grown GW.out (fun g e => by cases e; omega), HNQ.out, TW.out, gb_trans HG.out GW.out, fz.out⟩, by simp [intOf]; omega⟩
      · rw [set4row NB.out rfl]
        obtain ⟨W6, hW6⟩ : ∃ W6, wb.setRow wa.heap.size #[.bool f', .slice B1 n1 d1, .slice B2 n2 d2, .slice B3 n3 d3] = W6 := ⟨_, rfl⟩
        rw [hW6]
        have gW : wr.grownBy W6 (some T) := by rw [← hW6]; exact gb_far gb ga.size _
        have tW : TapeOk W6 T := by rw [← hW6]; exact tape_set tb hTa _
        have fN : W6.heap[wa.heap.size]? = some (.cells (fc f' B1 n1 d1 B2 n2 d2 B3 n3 d3) 25 (0, 0)) := by rw [← hW6]; exact setRow_heap _ _ _ _ _ _ NB.out
        have fo : ∀ v' B0, w.heap.size + 1 ≤ B0 → q < B0 → wa.heap.size < B0 → CL wb B0 (ap c x) v' → CL W6 (w.heap.size + 1) (ap c x) v' := fun v' B0 h0 _ h1 h2 => by rw [← hW6]; exact (h2.set h1 _).base h0
        have FO := Lib.hid fo
        have GW := Lib.hid gW
        have TW := Lib.hid tW
        have fq := Lib.hid ((gW.block q hql (by simp; omega)).trans HQ.out)
        have fz := Lib.hid ((gW.block w.heap.size (row_lt HZ.out) (by simp; omega)).trans HZ.out)
        have hB0 := Lib.hid (show w.heap.size + 1 ≤ (wa.alloc (.cells zC 25)).heap.size ∧ q < (wa.alloc (.cells zC 25)).heap.size ∧ wa.heap.size < (wa.alloc (.cells zC 25)).heap.size from ⟨by have := ga.size; simp; omega, by have := ga.size; simp; omega, by simp⟩)
        clear fo gW tW hW6 c0 c1 c2 c3 gd td ga0 ta0
        go_split_ands
        obtain ⟨u0, u1, u2, u3⟩ := fcCells fN
        obtain ⟨q0, q1, q2, q3⟩ := cvCells _ _ _ _ _ _ fq.out
        have qf : ∀ j, W6.frozen? ⟨q, j, none⟩ = false := fun j => frozen_of_row _ _ _ _ _ fq.out
        clear fN
        rcases HOUT.out.1 with ⟨hfit, rfl, v', hcs, hcl⟩ | ⟨hfit, rfl, hcs⟩
        · have HCS := Lib.hid hcs
          have HCX := Lib.hid (FO.out v' _ hB0.out.1 hB0.out.2.1 hB0.out.2.2 hcl)
          have HNX := Lib.hid (NQ.of_base hcl hB0.out.2.1)
          have HFIT := Lib.hid hfit
          clear hcs hcl hfit
          go_wp2_with fail
          rw [set4row (g := q) fq.out rfl, show (#[.bool f', .slice B1 n1 d1, .slice B2 n2 d2, .slice B3 n3 d3] : Array Value) = cv (ap c x) v' from HCS.out]
          exact ⟨⟨k - 1, by omega, congrArg (Value.int .i64) (by omega), ap c x, v', m + 1, by omega, ok_ap HOK.out XG.out HFIT.out, setRow_heap _ _ _ _ _ _ fq.out, HCX.out.setq HNX.out _, HNX.out, tape_set TW.out (by omega) _, gb_far (gb_trans HG.out GW.out) (by omega) _, (setRow_other _ _ _ _ (by omega)).trans fz.out⟩, by simp [intOf]; omega⟩
        · clear hcs hfit
          go_wp2_with fail
          exact ⟨⟨k - 1, by omega, congrArg (Value.int .i64) (by omega), c, v, m, by omega, HOK.out, fq.out, HC.out.grown GW.out (fun g e => by cases e; omega), HNQ.out, TW.out, gb_trans HG.out GW.out, fz.out⟩, by simp [intOf]; omega⟩
      · rw [set4row NB.out rfl]
        obtain ⟨W6, hW6⟩ : ∃ W6, wb.setRow wr.heap.size #[.bool f', .slice B1 n1 d1, .slice B2 n2 d2, .slice B3 n3 d3] = W6 := ⟨_, rfl⟩
        rw [hW6]
        have gW : wr.grownBy W6 (some T) := by rw [← hW6]; exact gb_far gb (Nat.le_refl _) _
        have tW : TapeOk W6 T := by rw [← hW6]; exact tape_set tb hTr _
        have fN : W6.heap[wr.heap.size]? = some (.cells (fc f' B1 n1 d1 B2 n2 d2 B3 n3 d3) 25 (0, 0)) := by rw [← hW6]; exact setRow_heap _ _ _ _ _ _ NB.out
        have fo : ∀ v' B0, w.heap.size + 1 ≤ B0 → q < B0 → wr.heap.size < B0 → CL wb B0 (ap c x) v' → CL W6 (w.heap.size + 1) (ap c x) v' := fun v' B0 h0 _ h1 h2 => by rw [← hW6]; exact (h2.set h1 _).base h0
        have FO := Lib.hid fo
        have GW := Lib.hid gW
        have TW := Lib.hid tW
        have fq := Lib.hid ((gW.block q hql (by simp; omega)).trans HQ.out)
        have fz := Lib.hid ((gW.block w.heap.size (row_lt HZ.out) (by simp; omega)).trans HZ.out)
        have hB0 := Lib.hid (show w.heap.size + 1 ≤ wa.heap.size ∧ q < wa.heap.size ∧ wr.heap.size < wa.heap.size from ⟨by have := ga.size; omega, Nat.lt_of_lt_of_le hql ga.size, row_lt NA.out⟩)
        clear fo gW tW hW6 c0 c1 c2 c3 gd td ga0 ta0
        go_split_ands
        obtain ⟨u0, u1, u2, u3⟩ := fcCells fN
        obtain ⟨q0, q1, q2, q3⟩ := cvCells _ _ _ _ _ _ fq.out
        have qf : ∀ j, W6.frozen? ⟨q, j, none⟩ = false := fun j => frozen_of_row _ _ _ _ _ fq.out
        clear fN
        rcases HOUT.out.1 with ⟨hfit, rfl, v', hcs, hcl⟩ | ⟨hfit, rfl, hcs⟩
        · have HCS := Lib.hid hcs
          have HCX := Lib.hid (FO.out v' _ hB0.out.1 hB0.out.2.1 hB0.out.2.2 hcl)
          have HNX := Lib.hid (NQ.of_base hcl hB0.out.2.1)
          have HFIT := Lib.hid hfit
          clear hcs hcl hfit
          go_wp2_with fail
          rw [set4row (g := q) fq.out rfl, show (#[.bool f', .slice B1 n1 d1, .slice B2 n2 d2, .slice B3 n3 d3] : Array Value) = cv (ap c x) v' from HCS.out]
          exact ⟨⟨k - 1, by omega, congrArg (Value.int .i64) (by omega), ap c x, v', m + 1, by omega, ok_ap HOK.out XG.out HFIT.out, setRow_heap _ _ _ _ _ _ fq.out, HCX.out.setq HNX.out _, HNX.out, tape_set TW.out (by omega) _, gb_far (gb_trans HG.out GW.out) (by omega) _, (setRow_other _ _ _ _ (by omega)).trans fz.out⟩, by simp [intOf]; omega⟩
        · clear hcs hfit
          go_wp2_with fail
          exact ⟨⟨k - 1, by omega, congrArg (Value.int .i64) (by omega), c, v, m, by omega, HOK.out, fq.out, HC.out.grown GW.out (fun g e => by cases e; omega), HNQ.out, TW.out, gb_trans HG.out GW.out, fz.out⟩, by simp [intOf]; omega⟩
    · obtain rfl : k = 0 := by omega
      obtain ⟨j0, j1, j2, j3, j4, j5, j6, j7⟩ := zCells (g := w.heap.size) HZ.out
      go_wp2_with fail
      rw [set4row (g := w.heap.size) HZ.out rfl]
      refine bodyPost_ret (v := .agg (cv c v)) (results_cell_row (fn := Try.f19) (p := 2) rfl _ _ w.heap.size 25 (cv c v) (0, 0) _ rfl (setRow_heap _ _ _ _ _ _ HZ.out) Try.underlying25 rfl (info25 _ _)) rfl ⟨c, v, rfl, HOK.out.mono (by omega), HC.out.set (by omega) _, gb_far HG.out (Nat.le_refl _) _, tape_set HTW.out hT _⟩

end Go.Proofs.Ytamcjhibdcbdnaa.Cl
