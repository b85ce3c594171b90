/-
  The Go function leakresponselaw12.DeltaBack returns true for every list of numbers, and leaves what was there as it was; no conditions.
-/
import Derived.Test.YtgaliinjjonlmaaDtBk
import Derived.Test.YtgaliinjjonlmaaRows
import Derived.WalkKit
import Derived.ProofKit
import Derived.OpenShut
import Derived.ShutString
import Derived.ChangeOld
import Derived.Below
namespace Go.Proofs.Ytgaliinjjonlmaa.deltaBack
open Go.ChangeShapes Go.WideShapes Go.ChangeAt Go.RowKit
open Go.ChangeMaps (open_string shut_string)
open Go.Proofs.Ytgaliinjjonlmaa.Tp
open Go.Proofs.Ytgaliinjjonlmaa.Dt
set_option linter.unusedVariables false

theorem ares_by {w w' : World} {bs : List Nat} {e : Ending} (h : ARes w bs e w') (hb : ∀ b ∈ bs, b ≤ 255) : ∃ A c, e = .returned (.tuple #[.slice A bs.length c, .int .i64 0]) ∧ By w' (.slice A bs.length c) bs ∧ Below w.heap.size w w' := by
  obtain ⟨v, rfl, hrow, hbl⟩ := h
  have hby := (by_own hrow rfl hb).1
  obtain ⟨A, c, e⟩ := hby.form
  subst e
  exact ⟨A, c, rfl, hby, hbl⟩

theorem own_bel {w w' : World} {B e s k : Nat} {v : Value} {xs : List Value} (h : w.ownsRow B e s v k xs) (hb : Below w.heap.size w w') : w'.ownsRow B e s v k xs :=
  h.kept (row := none) ⟨hb.os, hb.tape, hb.output, hb.size, fun k hk _ => hb.block k hk⟩ (by cases hv : v.ownBlock <;> simp)

theorem at_all {P : O → Prop} {ps : List (O × Value)} (h : ∀ p ∈ ps, P p.1) : ∀ j, j < ps.length → P ((ps.map (·.1)).getD j o0) := by
  intro j hj
  have := h ps[j] (List.getElem_mem hj)
  simpa [List.getD_eq_getElem?_getD, hj] using this

/-- What operations make are bytes. -/
theorem made_bytes {w : World} {base : List Nat} {ps : List (O × Value)} (hb : ∀ b ∈ base, b ≤ 255) (hby : ∀ p ∈ ps, By w p.2 p.1.d) : ∀ b ∈ ps.flatMap (fun p => ap base p.1), b ≤ 255 := fun b h => by
  obtain ⟨p, hp, h⟩ := List.mem_flatMap.1 h
  rcases List.mem_append.1 h with h | h
  · exact hb b (List.mem_of_mem_drop (List.mem_of_mem_take h))
  · exact (hby p hp).1 b h

set_option maxRecDepth 100000 in
set_option maxHeartbeats 4000000 in
theorem walk (a0 : Option Addr) (len0 cap0 : Nat) (z0 : List Int) (w : World) (w0 : IsRow .i64 w a0 len0 cap0 z0) :
    Calls Try.prog 7 #[.slice a0 len0 cap0] w fun e w' => e = .returned (.bool true) ∧ Below w.heap.size w w' := by
  have htp := tape_new w0
  have HTP := Lib.hid htp
  have HBX := Lib.hid (box_below w (.cells #[.slice a0 len0 cap0, .int .i64 0] 27))
  clear w0 htp
  go_enter Try.func7, Try.ntmps7
  go_wp2_with fail
  refine (next_any w.heap.size 30 _ HTP.out (by omega) (by omega)).mono ?_
  rintro e w1 ⟨x, hx0, hx1, rfl, hg1, ht1⟩
  obtain ⟨N, rfl⟩ : ∃ m : Nat, x = m := ⟨x.toNat, by omega⟩
  have hs1 := hg1.size
  simp at hs1
  have HG1 := Lib.hid hg1
  have HT1 := Lib.hid ht1
  clear hg1 ht1
  go_wp2_with fail
  refine (bytes_any w.heap.size N _ HT1.out (by omega) (by omega)).mono ?_
  rintro e w2 ⟨v, rfl, hrel⟩
  obtain ⟨a, A, ca, rfl, hla, hbya, hfa, hg2, ht2⟩ := made_by hrel (by omega)
  have hs2 := hg2.size
  have HBA := Lib.hid hbya
  have HFA : Hid (∀ x, A = some x → w.heap.size < x.block) := Lib.hid (fun x e => by have := hfa x e; omega)
  have HLA := Lib.hid hla
  have HG2 := Lib.hid (gb_trans HG1.out hg2)
  have HT2 := Lib.hid ht2
  clear hrel hla hbya hfa hg2 ht2
  go_wp2_with fail
  refine (ops_any w.heap.size N w2 HT2.out (by omega) (by omega)).mono ?_
  rintro e w3 ⟨ps, pv, rfl, hpl, hop⟩
  obtain ⟨A1, c1, ev, hol⟩ := olies_of hop.row hop.by_
  subst ev
  have HOP := Lib.hid hop
  have HA3 := Lib.hid (HBA.out.tape HFA.out hop.gr)
  have HBL3 : Hid (Below w.heap.size w w3) := Lib.hid (HBX.out.grown (gb_trans HG2.out hop.gr) HBX.out.size (fun k e => by cases e; exact Nat.le_refl _))
  have HOL := Lib.hid hol
  have hN60 : N ≤ 60 := by omega
  have hfo := fun p hp => fit_ok (hop.fit p hp) (hop.by_ p hp) hN60
  have hfm := format_any A1 ps.length c1 N (ps.map (·.1)) (ps.map (·.2)) w3 hol (fit_at hop.fit) (at_all (P := sml) (fun p hp => (hfo p hp).2.1)) (fun i hi => by
    have := fmt_len (ps.map (·.1)) 100 i (fun j hj => at_all (P := fun o => (fmo o).length ≤ 100) (fun p hp => (hfo p hp).2.2.2) j (by omega))
    omega) (by omega)
  have hal := fmt_all (ps.map (·.1))
  rw [List.length_map] at hal
  rw [hal] at hfm
  have hfl : ((ps.map (·.1)).flatMap fmo).length ≤ 500 := by
    rw [← hal]
    have := fmt_len (ps.map (·.1)) 100 ps.length (fun j hj => at_all (P := fun o => (fmo o).length ≤ 100) (fun p hp => (hfo p hp).2.2.2) j hj)
    omega
  have hfb : ∀ b ∈ (ps.map (·.1)).flatMap fmo, b ≤ 255 := by
    intro b hb
    obtain ⟨o, ho, hb⟩ := List.mem_flatMap.1 hb
    obtain ⟨p, hp, rfl⟩ := List.mem_map.1 ho
    exact fmo_byte (hop.by_ p hp).1 b hb
  have hok2 : ∀ o ∈ ps.map (·.1), Ok2 o := by
    intro o ho
    obtain ⟨p, hp, rfl⟩ := List.mem_map.1 ho
    exact (hfo p hp).2.2.1
  have HFM := Lib.hid hfm
  have HFB := Lib.hid hfb
  have HOK := Lib.hid hok2
  have hpa := fun X L c W (hX : By W (.slice X L c) ((ps.map (·.1)).flatMap fmo)) (hL : L ≤ 50000) => parse_any X L c (ps.map (·.1)) W hX hok2 hL (by rw [List.length_map]; omega)
  have HPA := Lib.hid hpa
  clear hop hol hfm hal hfb hok2 hpa hfo HG1 HG2 HT1 HT2 HTP HBX HBA
  go_wp2_with fail
  refine HFM.out.mono ?_
  rintro e w4 hres
  obtain ⟨X1, x1, rfl, hb1, hb4⟩ := ares_by hres HFB.out
  generalize hLL : ((ps.map (·.1)).flatMap fmo).length = L at *
  have HB4 := Lib.hid hb4
  have HP := Lib.hid (HPA.out X1 L x1 w4 hb1 (by omega))
  clear hres hb1 hb4 HFM HPA hLL
  go_wp2_with fail
  refine HP.out.mono ?_
  rintro e w5 ⟨qs, qv, rfl, hmap, hst, hnn⟩
  have hfit2 := fit_again hmap HOP.out.fit HOP.out.by_ hnn hst.by_
  have hql : qs.length = ps.length := by have := congrArg List.length hmap; simpa using this
  have hsame : qs.flatMap (fun p => ap a p.1) = ps.flatMap (fun p => ap a p.1) := by
    have h1 : ∀ l : List (O × Value), l.flatMap (fun p => ap a p.1) = (l.map (·.1)).flatMap (ap a) := fun l => by rw [List.flatMap_map]
    rw [h1, h1, hmap]
  obtain ⟨A2, c2, ev, hol2⟩ := hst.olies
  subst ev
  have HB5 := Lib.hid (HB4.out.trans (hst.bl.mono HB4.out.size))
  have hap1 := row_applies (own_bel HOP.out.row HB5.out) (fun p hp => (HOP.out.by_ p hp).below HB5.out) HOP.out.fit (by omega) (HA3.out.below HB5.out) HLA.out (by omega)
  have hap2 := fun W (hW : Below w5.heap.size w5 W) => row_applies (own_bel hst.row hW) (fun p hp => (hst.by_ p hp).below hW) hfit2 (by omega) (HA3.out.below (HB5.out.trans (hW.mono HB5.out.size))) HLA.out (by omega)
  rw [hsame] at hap2
  have hpb := made_bytes HA3.out.1 HOP.out.by_
  have hsm := fun W (hW : Below w5.heap.size w5 W) => same_any A1 A2 ps.length c1 c2 (ps.map (·.1)) (ps.map (·.2)) (qs.map (·.2)) W (HOL.out.below (HB5.out.trans (hW.mono HB5.out.size))) (by
    have h := hol2.below hW
    rw [hql, hmap] at h
    exact h) (by omega)
  rw [hql] at hap2 ⊢
  have HPB := Lib.hid hpb
  have HAP1 := Lib.hid hap1
  have HAP2 := Lib.hid hap2
  have HSM := Lib.hid hsm
  clear hmap hst hnn hfit2 hsame hol2 hap1 hap2 hpb hsm HP
  generalize ps.flatMap (fun p => ap a p.1) = ra at *
  generalize ps.length = k at *
  go_wp2_with fail
  refine HAP1.out.mono ?_
  rintro e w6 hres
  obtain ⟨X2, x2, rfl, hb1, hb6⟩ := ares_by hres HPB.out
  have HB6 := Lib.hid hb6
  have HY1 := Lib.hid hb1
  clear hres hb1 hb6
  go_wp2_with fail
  refine (HAP2.out w6 HB6.out).mono ?_
  rintro e w7 hres
  obtain ⟨X3, x3, rfl, hb1, hb7⟩ := ares_by hres HPB.out
  have HB7 := Lib.hid (HB6.out.trans (hb7.mono HB6.out.size))
  have HY2 := Lib.hid (HY1.out.below hb7)
  have HY3 := Lib.hid hb1
  clear hres hb1 hb7
  go_wp2_with fail
  refine (HSM.out w7 HB7.out).mono ?_
  rintro e w8 ⟨rfl, hb8⟩
  have q1 := conv_by (HY2.out.below hb8)
  have q2 := conv_by (HY3.out.below hb8)
  have HB8 := Lib.hid (HBL3.out.trans ((HB5.out.trans ((HB7.out.trans (hb8.mono HB7.out.size)).mono HB5.out.size)).mono HBL3.out.size))
  clear hb8
  generalize strB ra = S1 at *
  go_wp2_with (go_at_call 23; refine (awake_any _).mono ?_; rintro e w9 ⟨rfl, hb9⟩; have HB9 := Lib.hid (HB8.out.trans (hb9.mono HB8.out.size)); clear hb9)
  go_ret
  exact ⟨rfl, HB9.out⟩

/-! ### THE ROW's STEP: WRITTEN OUT: LEAVE IT -/
set_option maxRecDepth 100000 in
theorem lifted (os : Os) (started : os.Started) (H : Type) (enc : TypeId × Value → H) :
    ReturnsInHanded {} Try.checked os 7 .any (Rows.deltaBackSpec.pre6 enc Try.prog Try.f7 Rows.deltaBackRow.domain false) (Rows.deltaBackSpec.post enc Try.prog Try.f7 false true false false) := by
  refine returnsInHanded_of_change (C := Try.checked) own started (by kernel_rfl) Try.func7
    (ChangeSpec.witness6 (enc := enc) (C := Try.checked) false ⟨#[], #[.slice none 0 0], []⟩ 8 (by kernel_rfl) (by kernel_rfl) (by kernel_rfl) (by kernel_rfl)) ?_
  intro W base args ds gs before hval0 hW hcnd _
  have hval : ∀ (j : Nat) t v, Try.f7.params[j]? = some t → args[j]? = some v → Value.okWide Try.prog W .any base t v := hval0
  have hW' := hW
  obtain ⟨p, q, hA0, hV, rfl, hfz, hnd⟩ := hW
  have hA : DataW.TrodAll enc Try.prog W 0 (fun _ => true) true Try.f7.params.toList args.toList ds p := hA0
  rw [Try.params7] at hA hval
  obtain ⟨v0, vs0, d0, ds0, p0, q0, hargs, rfl, rfl, h0, r0⟩ := trodAll_cons hA
  obtain ⟨rfl, rfl, rfl⟩ := trodAll_nil r0
  obtain rfl : args = #[v0] := by cases args; simp_all
  obtain ⟨rfl, rfl⟩ := trodVars_none hV
  obtain ⟨a0, len0, cap0, rfl⟩ := okWide_slice Try.underlying22 (hval 0 22 v0 rfl rfl)
  have k0 := h0
  have lt0 : ∀ x ∈ p0, x.block < W.heap.size := by obtain ⟨m, hm⟩ := k0; exact DataW.trod_lt m _ _ _ hm
  obtain ⟨z0, w0⟩ : ∃ zs, IsRow .i64 W a0 len0 cap0 zs := by
    obtain ⟨fuel, hf⟩ := h0
    rcases open_ints Try.underlying22 Try.underlying3 (by kernel_rfl) hf with ⟨hcs, _⟩ | ⟨x, l, c, zs, hcs, _, hl, hm, hz, _, hcell, hwz⟩
    · simp [Value.cells] at hcs
      obtain ⟨rfl, rfl, rfl⟩ := hcs
      exact ⟨[], .inl ⟨rfl, rfl, rfl, rfl⟩⟩
    · simp [Value.cells] at hcs
      obtain ⟨rfl, rfl, rfl⟩ := hcs
      exact ⟨zs, .inr ⟨_, rfl, hl, hm, by simpa using hz, hcell, hwz⟩⟩
  clear hA0 hval0
  refine (walk a0 len0 cap0 z0 W w0).mono fun e W' ⟨he, bel⟩ => ?_
  subst he
  exact ⟨_, rfl, _, _, _, [], _, [], hW', trodAll_mk1 (shut_bool Try.underlying4 _), (trodAll_cons_mk (Below.trod laidOut (by kernel_rfl) (of_decide_eq_true (by kernel_rfl)) k0 bel lt0) trodAll_mk0), rfl, bel.frame _, fun h => by cases h⟩

theorem over : Rows.deltaBackRow.holds Try.pinned (OpenSpec.ofChange Rows.deltaBackSpec) :=
  OpenClaim.holds_of_wide 7 Try.f7 rfl rfl rfl rfl rfl rfl rfl ⟨rfl, rfl, rfl, rfl, rfl⟩ rfl rfl rfl rfl rfl (by kernel_rfl) Try.func7 (by kernel_rfl)
    (of_decide_eq_true (by kernel_rfl)) (by unfold Func.isWrapper; first | (rw [if_pos (by decide +kernel)]; kernel_rfl) | (rw [if_neg (by decide +kernel)]; exact ⟨rfl, rfl⟩))
    (fun os started H enc _ => lifted os started H enc)

/-- ████ THE STATEMENT ████ -/
theorem proved : Rows.DeltaBackSaid := over
#print axioms proved
end Go.Proofs.Ytgaliinjjonlmaa.deltaBack
