/-
  The Go function leakresponselaw12.DeltaWhole returns true for every list of numbers, and leaves what was there as it was; no conditions.
-/
import Derived.Test.YtgaliinjjonlmaaDtWh
import Derived.Test.YtgaliinjjonlmaaRows
import Derived.WalkKit
import Derived.ProofKit
import Derived.OpenShut
import Derived.ShutString
import Derived.ChangeOld
import Derived.Below
import Derived.Laws.Concat
namespace Go.Proofs.Ytgaliinjjonlmaa.deltaWhole
open Go.ChangeShapes Go.WideShapes Go.ChangeAt Go.RowKit
open Go.ChangeMaps (open_string shut_string)
open Go.Proofs.Ytgaliinjjonlmaa.Tp
open Go.Proofs.Ytgaliinjjonlmaa.Dt
set_option linter.unusedVariables false

theorem ares_by {w w' : World} {bs : List Nat} {e : Ending} (h : ARes w bs e w') (hb : ∀ b ∈ bs, b ≤ 255) : ∃ A c, e = .returned (.tuple #[.slice A bs.length c, .int .i64 0]) ∧ By w' (.slice A bs.length c) bs ∧ Below w.heap.size w w' := by
  obtain ⟨v, rfl, hrow, hbl⟩ := h
  have hby := (by_own hrow rfl hb).1
  obtain ⟨A, c, e⟩ := hby.form
  subst e
  exact ⟨A, c, rfl, hby, hbl⟩

/-- What operations make are bytes, and not many. -/
theorem made_bytes {w : World} {N : Nat} {base : List Nat} {ps : List (O × Value)} (hb : ∀ b ∈ base, b ≤ 255) (hN : base.length = N) (hfit : ∀ p ∈ ps, Fit N p) (hby : ∀ p ∈ ps, By w p.2 p.1.d) : (∀ b ∈ ps.flatMap (fun p => ap base p.1), b ≤ 255) ∧ (ps.flatMap (fun p => ap base p.1)).length ≤ 70 * ps.length := by
  refine ⟨fun b h => ?_, ?_⟩
  · obtain ⟨p, hp, h⟩ := List.mem_flatMap.1 h
    rcases List.mem_append.1 h with h | h
    · exact hb b (List.mem_of_mem_drop (List.mem_of_mem_take h))
    · exact (hby p hp).1 b h
  · have h1 := apl_len base (ps.map (·.1)) ps.length (fun j hj => by
      rw [hN]
      have h2 := fit_at hfit j hj
      have h3 := hby ps[j] (List.getElem_mem hj)
      have e1 : (ps.map (·.1)).getD j o0 = ps[j].1 := by simp [List.getD_eq_getElem?_getD, hj]
      have e2 : (ps.map (·.2)).getD j undef = ps[j].2 := by simp [List.getD_eq_getElem?_getD, hj]
      rw [e1, e2] at h2
      rw [e1]
      exact vo_ok h2 h3)
    rw [apl_all] at h1
    rw [h1]
    exact fit_tot hfit ps.length (Nat.le_refl _)

theorem own_bel {w w' : World} {B e s k : Nat} {v : Value} {xs : List Value} (h : w.ownsRow B e s v k xs) (hb : Below w.heap.size w w') : w'.ownsRow B e s v k xs :=
  h.kept (row := none) ⟨hb.os, hb.tape, hb.output, hb.size, fun k hk _ => hb.block k hk⟩ (by cases hv : v.ownBlock <;> simp)

/-- One operation, laid as a literal. -/
theorem lit_applies {A : Option Addr} {N ca : Nat} {a : List Nat} {w w6 : World} {o : O} {v : Value} (h : w6 = w) (hf : Fit N (o, v)) (hv : By w v o.d) (ha : By w (.slice A N ca) a) (hN : a.length = N) (hN2 : N ≤ 1000) :
    Calls Try.prog 20 #[.slice A N ca, .slice (some ⟨w.heap.size, 0, none⟩) 1 1] (w.alloc (.cells #[.int .i64 (o.f : Int), .int .i64 (o.s : Int), v] 54)) (ARes (w.alloc (.cells #[.int .i64 (o.f : Int), .int .i64 (o.s : Int), v] 54)) (ap a o)) := by
  have hb := box_below w (.cells #[.int .i64 (o.f : Int), .int .i64 (o.s : Int), v] 54)
  have hrow : (w.alloc (.cells #[.int .i64 (o.f : Int), .int .i64 (o.s : Int), v] 54)).ownsRow w.heap.size 54 3 (.slice (some ⟨w.heap.size, 0, none⟩) 1 1) 1 (ocs [(o, v)]) := World.ownsRow_lit w #[.int .i64 (o.f : Int), .int .i64 (o.s : Int), v] 1 (Nat.le_refl _) (by unfold maxLen; omega) rfl
  have := row_applies (ps := [(o, v)]) hrow (fun p hp => by
    have := List.mem_singleton.1 hp
    subst this
    exact hv.below hb) (fun p hp => by
    have := List.mem_singleton.1 hp
    subst this
    exact hf) (by simp) (ha.below hb) hN hN2
  simpa using this

set_option maxRecDepth 100000 in
set_option maxHeartbeats 4000000 in
theorem walk (a0 : Option Addr) (len0 cap0 : Nat) (z0 : List Int) (w : World) (w0 : IsRow .i64 w a0 len0 cap0 z0) :
    Calls Try.prog 9 #[.slice a0 len0 cap0] w fun e w' => e = .returned (.bool true) ∧ Below w.heap.size w w' := by
  have htp := tape_new w0
  have HTP := Lib.hid htp
  have HBX := Lib.hid (box_below w (.cells #[.slice a0 len0 cap0, .int .i64 0] 27))
  clear w0 htp
  go_enter Try.func9, Try.ntmps9
  go_wp2_with fail
  refine (next_any w.heap.size 20 _ HTP.out (by omega) (by omega)).mono ?_
  rintro e w1 ⟨x, hx0, hx1, rfl, hg1, ht1⟩
  obtain ⟨n1, rfl⟩ : ∃ m : Nat, x = m := ⟨x.toNat, by omega⟩
  have hs1 := hg1.size
  simp at hs1
  obtain ⟨N, hN⟩ : ∃ N, 1 + n1 = N := ⟨_, rfl⟩
  have hNi : (1 : Int) + (n1 : Int) = (N : Int) := by omega
  have HG1 := Lib.hid hg1
  have HT1 := Lib.hid ht1
  clear hg1 ht1
  go_wp2_with fail
  refine (bytes_any w.heap.size N _ HT1.out (by omega) (by omega)).mono ?_
  rintro e w2 ⟨v, rfl, hrel⟩
  obtain ⟨a, A, ca, rfl, hla, hbya, hfa, hg2, ht2⟩ := made_by hrel (by omega)
  have hs2 := hg2.size
  have HBA := Lib.hid hbya
  have HFA : Hid (∀ x, A = some x → w.heap.size < x.block) := Lib.hid (fun x e => by have := hfa x e; omega)
  have HLA := Lib.hid hla
  have HG2 := Lib.hid (gb_trans HG1.out hg2)
  have HT2 := Lib.hid ht2
  clear hrel hla hbya hfa hg2 ht2
  go_wp2_with fail
  refine (next_any w.heap.size 9 _ HT2.out (by omega) (by omega)).mono ?_
  rintro e w3 ⟨x, hy0, hy1, rfl, hg3, ht3⟩
  obtain ⟨m1, rfl⟩ : ∃ m : Nat, x = m := ⟨x.toNat, by omega⟩
  have hs3 := hg3.size
  obtain ⟨M, hM⟩ : ∃ M, 1 + m1 = M := ⟨_, rfl⟩
  have hMi : (1 : Int) + (m1 : Int) = (M : Int) := by omega
  have HBA3 := Lib.hid (HBA.out.tape HFA.out hg3)
  have HG3 := Lib.hid (gb_trans HG2.out hg3)
  have HT3 := Lib.hid ht3
  clear hg3 ht3
  go_wp2_with fail
  refine (bytes_any w.heap.size M _ HT3.out (by omega) (by omega)).mono ?_
  rintro e w4 ⟨v, rfl, hrel⟩
  obtain ⟨b, B, cb, rfl, hlb, hbyb, hfb, hg4, ht4⟩ := made_by hrel (by omega)
  have hs4 := hg4.size
  have HBA4 := Lib.hid (HBA3.out.tape HFA.out hg4)
  have HBB := Lib.hid hbyb
  have HFB : Hid (∀ x, B = some x → w.heap.size < x.block) := Lib.hid (fun x e => by have := hfb x e; omega)
  have HLB := Lib.hid hlb
  have HG4 := Lib.hid (gb_trans HG3.out hg4)
  have HT4 := Lib.hid ht4
  clear hrel hlb hbyb hfb hg4 ht4
  go_wp2_with fail
  refine (ops_any w.heap.size N w4 HT4.out (by omega) (by omega)).mono ?_
  rintro e w5 ⟨ps, pv, rfl, hpl, hop⟩
  have HOP := Lib.hid hop
  have hs5 := hop.gr.size
  have HBA5 := Lib.hid (HBA4.out.tape HFA.out hop.gr)
  have HBB5 := Lib.hid (HBB.out.tape HFB.out hop.gr)
  have HG5 := Lib.hid (gb_trans HG4.out hop.gr)
  clear hop
  go_wp2_with fail
  refine (ops_any w.heap.size N w5 HOP.out.tp (by omega) (by omega)).mono ?_
  rintro e w6 ⟨qs, qv, rfl, hql, hoq⟩
  have HOQ := Lib.hid hoq
  have HOP6 := Lib.hid (HOP.out.tape (by omega) hoq.gr hoq.tp)
  have HA6 := Lib.hid (HBA5.out.tape HFA.out hoq.gr)
  have HB6 := Lib.hid (HBB5.out.tape HFB.out hoq.gr)
  have HBL6 : Hid (Below w.heap.size w w6) := Lib.hid (HBX.out.grown (gb_trans HG5.out hoq.gr) HBX.out.size (fun k e => by cases e; exact Nat.le_refl _))
  clear hoq HBA HBA3 HBA4 HBA5 HBB HBB5 HT1 HT2 HT3 HT4 HG1 HG2 HG3 HG4 HG5 HTP HFA HFB HOP
  have hM70 : M ≤ 9 := by omega
  have h1 := lit_applies (N := N) (A := A) (ca := ca) (a := a) (o := ⟨0, 0, b⟩) (v := .slice B M cb) (w6 := w6) rfl ⟨.inl ⟨rfl, rfl, B, M, cb, rfl, by omega⟩, by rw [show cnt ⟨0, 0, b⟩ = b.length from if_neg (by simp), HLB.out]; omega⟩ HB6.out HA6.out HLA.out (by omega)
  have e1 : ap a ⟨0, 0, b⟩ = b := by simp [ap]
  rw [e1] at h1
  have HAP1 := Lib.hid h1
  have h2 := fun W (hW : Below w6.heap.size w6 W) => lit_applies (N := N) (A := A) (ca := ca) (a := a) (o := ⟨0, N, []⟩) (v := .slice none 0 0) (w6 := W) rfl ⟨.inr ⟨show 1 ≤ N by omega, rfl, Nat.le_refl _, by simp⟩, by rw [show cnt ⟨0, N, []⟩ = N from if_pos (show 1 ≤ N by omega)]; omega⟩ ⟨by simp, .inl ⟨rfl, rfl⟩⟩ (HA6.out.below hW) HLA.out (by omega)
  have e2 : ap a ⟨0, N, []⟩ = a := by
    simp only [ap, List.drop_zero, List.append_nil]
    rw [List.take_of_length_le (by rw [HLA.out]; exact Nat.le_refl _)]
  rw [e2] at h2
  have HAP2 := Lib.hid h2
  have h3 := fun W (hW : Below w6.heap.size w6 W) => row_applies (own_bel HOP6.out.row hW) (fun p hp => (HOP6.out.by_ p hp).below hW) HOP6.out.fit (by omega) (HA6.out.below hW) HLA.out (by omega)
  have h4 := fun W (hW : Below w6.heap.size w6 W) => row_applies (own_bel HOQ.out.row hW) (fun p hp => (HOQ.out.by_ p hp).below hW) HOQ.out.fit (by omega) (HA6.out.below hW) HLA.out (by omega)
  have HAP3 := Lib.hid h3
  have HAP4 := Lib.hid h4
  obtain ⟨hpb, hpn⟩ := made_bytes HA6.out.1 HLA.out HOP6.out.fit HOP6.out.by_
  obtain ⟨hqb, hqn⟩ := made_bytes HA6.out.1 HLA.out HOQ.out.fit HOQ.out.by_
  have hall : ∀ p ∈ ps ++ qs, Fit N p ∧ By w6 p.2 p.1.d := by
    intro p hp
    rcases List.mem_append.1 hp with hp | hp
    · exact ⟨HOP6.out.fit p hp, HOP6.out.by_ p hp⟩
    · exact ⟨HOQ.out.fit p hp, HOQ.out.by_ p hp⟩
  have HALL := Lib.hid hall
  have HPB := Lib.hid hpb
  have HQB := Lib.hid hqb
  clear h1 h2 h3 h4 e1 e2 hpb hqb hall
  have hfm : (ps ++ qs).flatMap (fun p => ap a p.1) = ps.flatMap (fun p => ap a p.1) ++ qs.flatMap (fun p => ap a p.1) := List.flatMap_append
  generalize hra : ps.flatMap (fun p => ap a p.1) = ra at *
  generalize hrb : qs.flatMap (fun p => ap a p.1) = rb at *
  have HFM := Lib.hid hfm
  have hral : ra.length ≤ 350 := by omega
  have hrbl : rb.length ≤ 350 := by omega
  clear hfm hra hrb
  have hNc : decide ((1 : Int) ≤ (N : Int)) = true := decide_eq_true (by omega)
  go_wp2_with fail
  refine HAP1.out.mono ?_
  rintro e w7 hres
  obtain ⟨X1, c1, rfl, hbu, hb7⟩ := ares_by hres HB6.out.1
  have HB7 := Lib.hid ((box_below w6 _).trans (hb7.mono (box_below w6 _).size))
  have HU := Lib.hid hbu
  clear hres hbu hb7
  go_wp2_with fail
  refine (HAP2.out w7 HB7.out).mono ?_
  rintro e w8 hres
  obtain ⟨X2, c2, rfl, hbv, hb8⟩ := ares_by hres HA6.out.1
  have hb8' := (box_below w7 _).trans (hb8.mono (box_below w7 _).size)
  have HB8 := Lib.hid (HB7.out.trans (hb8'.mono HB7.out.size))
  have HU8 := Lib.hid (HU.out.below hb8')
  have HV := Lib.hid hbv
  clear hres hbv hb8 hb8'
  go_wp2_with fail
  refine (HAP3.out w8 HB8.out).mono ?_
  rintro e w9 hres
  obtain ⟨X3, c3, rfl, hbx, hb9⟩ := ares_by hres HPB.out
  have HB9 := Lib.hid (HB8.out.trans (hb9.mono HB8.out.size))
  have HU9 := Lib.hid (HU8.out.below hb9)
  have HV9 := Lib.hid (HV.out.below hb9)
  have HX := Lib.hid hbx
  clear hres hbx hb9
  go_wp2_with fail
  refine (HAP4.out w9 HB9.out).mono ?_
  rintro e w10 hres
  obtain ⟨X4, c4, rfl, hby, hb10⟩ := ares_by hres HQB.out
  have HB10 := Lib.hid (HB9.out.trans (hb10.mono HB9.out.size))
  have HU10 := Lib.hid (HU9.out.below hb10)
  have HV10 := Lib.hid (HV9.out.below hb10)
  have HX10 := Lib.hid (HX.out.below hb10)
  have HY := Lib.hid hby
  clear hres hby hb10
  have hbx0 : Below w10.heap.size w10 (w10.alloc (.cells #[] 54)) := box_below _ _
  have HBX0 := Lib.hid hbx0
  have HW0 := Lib.hid (HB10.out.trans (hbx0.mono HB10.out.size))
  clear hbx0
  go_wp2_with (first
    | (at_builtin; (refine append_ops rfl (.tmp 70) (.tmp 71) rfl w10.heap.size _ (.slice (some ⟨w10.heap.size, 0, none⟩) 0 0) pv [] ps rfl rfl (World.ownsRow_lit w10 #[] 0 (Nat.le_refl _) (by unfold maxLen; omega) rfl) (own_bel HOP6.out.row HW0.out) (fun p hp => (HOP6.out.by_ p hp).below HW0.out) (by simp; omega) (by simp) ?_); intro v1 w11 own1 gr1; have HO1 := Lib.hid own1; have hb11 := HBX0.out.grown gr1 HBX0.out.size (fun g e => by cases e; exact Nat.le_refl _); have HB11 := Lib.hid hb11; have HW1 := Lib.hid (HB10.out.trans (hb11.mono HB10.out.size)); clear own1 gr1 hb11)
    | (at_builtin; (refine append_ops rfl (.tmp 72) (.tmp 73) rfl w10.heap.size _ v1 qv ([] ++ ps) qs rfl rfl HO1.out (own_bel HOQ.out.row HW1.out) (fun p hp => (HOQ.out.by_ p hp).below HW1.out) (by simp; omega) HB11.out.size ?_); intro v2 w12 own2 gr2; have HO2 := Lib.hid own2; have hb12 := HB11.out.grown gr2 HB11.out.size (fun g e => (HO1.out.lt g e).1); have HB12 := Lib.hid hb12; have HW2 := Lib.hid (HB10.out.trans (hb12.mono HB10.out.size)); clear own2 gr2 hb12))
  have h5 := row_applies (w := w12) (N := N) (B := A) (cb := ca) (base := a) (ps := ps ++ qs) (v := v2) (by have h := HO2.out; rw [List.nil_append] at h; exact h) (fun p hp => (HALL.out p hp).2.below HW2.out) (fun p hp => (HALL.out p hp).1) (by rw [List.length_append]; omega) (HA6.out.below HW2.out) HLA.out (by omega)
  rw [HFM.out] at h5
  refine h5.mono ?_
  rintro e w13 hres
  obtain ⟨X5, c5, rfl, hbz, hb13⟩ := ares_by hres (fun x hx => by
    rcases List.mem_append.1 hx with hx | hx
    · exact HPB.out x hx
    · exact HQB.out x hx)
  have hw13 := HB12.out.trans (hb13.mono HB12.out.size)
  have HB13 := Lib.hid (HB10.out.trans (hw13.mono HB10.out.size))
  have q1 := conv_by (HU10.out.below hw13)
  have q2 := conv_by (HB6.out.below HB13.out)
  have q3 := conv_by (HV10.out.below hw13)
  have q4 := conv_by (HA6.out.below HB13.out)
  have q5 := conv_by hbz
  have q6 := conv_by (HX10.out.below hw13)
  have q7 := conv_by (HY.out.below hw13)
  rw [strB_app, List.length_append] at q5
  have z6 := strB_size ra
  have z7 := strB_size rb
  clear hres hbz hb13 hw13 h5
  generalize strB a = S1 at *
  generalize strB b = S2 at *
  generalize strB ra = S3 at *
  generalize strB rb = S4 at *
  go_wp2_with (go_at_call 23; refine (awake_any _).mono ?_; rintro e w14 ⟨rfl, hb14⟩; have HB14 := Lib.hid (HBL6.out.trans ((HB13.out.trans (hb14.mono HB13.out.size)).mono HBL6.out.size)); clear hb14)
  go_ret
  exact ⟨rfl, HB14.out⟩

/-! ### THE ROW's STEP: WRITTEN OUT: LEAVE IT -/
set_option maxRecDepth 100000 in
theorem lifted (os : Os) (started : os.Started) (H : Type) (enc : TypeId × Value → H) :
    ReturnsInHanded {} Try.checked os 9 .any (Rows.deltaWholeSpec.pre6 enc Try.prog Try.f9 Rows.deltaWholeRow.domain false) (Rows.deltaWholeSpec.post enc Try.prog Try.f9 false true false false) := by
  refine returnsInHanded_of_change (C := Try.checked) own started (by kernel_rfl) Try.func9
    (ChangeSpec.witness6 (enc := enc) (C := Try.checked) false ⟨#[], #[.slice none 0 0], []⟩ 8 (by kernel_rfl) (by kernel_rfl) (by kernel_rfl) (by kernel_rfl)) ?_
  intro W base args ds gs before hval0 hW hcnd _
  have hval : ∀ (j : Nat) t v, Try.f9.params[j]? = some t → args[j]? = some v → Value.okWide Try.prog W .any base t v := hval0
  have hW' := hW
  obtain ⟨p, q, hA0, hV, rfl, hfz, hnd⟩ := hW
  have hA : DataW.TrodAll enc Try.prog W 0 (fun _ => true) true Try.f9.params.toList args.toList ds p := hA0
  rw [Try.params9] at hA hval
  obtain ⟨v0, vs0, d0, ds0, p0, q0, hargs, rfl, rfl, h0, r0⟩ := trodAll_cons hA
  obtain ⟨rfl, rfl, rfl⟩ := trodAll_nil r0
  obtain rfl : args = #[v0] := by cases args; simp_all
  obtain ⟨rfl, rfl⟩ := trodVars_none hV
  obtain ⟨a0, len0, cap0, rfl⟩ := okWide_slice Try.underlying22 (hval 0 22 v0 rfl rfl)
  have k0 := h0
  have lt0 : ∀ x ∈ p0, x.block < W.heap.size := by obtain ⟨m, hm⟩ := k0; exact DataW.trod_lt m _ _ _ hm
  obtain ⟨z0, w0⟩ : ∃ zs, IsRow .i64 W a0 len0 cap0 zs := by
    obtain ⟨fuel, hf⟩ := h0
    rcases open_ints Try.underlying22 Try.underlying3 (by kernel_rfl) hf with ⟨hcs, _⟩ | ⟨x, l, c, zs, hcs, _, hl, hm, hz, _, hcell, hwz⟩
    · simp [Value.cells] at hcs
      obtain ⟨rfl, rfl, rfl⟩ := hcs
      exact ⟨[], .inl ⟨rfl, rfl, rfl, rfl⟩⟩
    · simp [Value.cells] at hcs
      obtain ⟨rfl, rfl, rfl⟩ := hcs
      exact ⟨zs, .inr ⟨_, rfl, hl, hm, by simpa using hz, hcell, hwz⟩⟩
  clear hA0 hval0
  refine (walk a0 len0 cap0 z0 W w0).mono fun e W' ⟨he, bel⟩ => ?_
  subst he
  exact ⟨_, rfl, _, _, _, [], _, [], hW', trodAll_mk1 (shut_bool Try.underlying4 _), (trodAll_cons_mk (Below.trod laidOut (by kernel_rfl) (of_decide_eq_true (by kernel_rfl)) k0 bel lt0) trodAll_mk0), rfl, bel.frame _, fun h => by cases h⟩

theorem over : Rows.deltaWholeRow.holds Try.pinned (OpenSpec.ofChange Rows.deltaWholeSpec) :=
  OpenClaim.holds_of_wide 9 Try.f9 rfl rfl rfl rfl rfl rfl rfl ⟨rfl, rfl, rfl, rfl, rfl⟩ rfl rfl rfl rfl rfl (by kernel_rfl) Try.func9 (by kernel_rfl)
    (of_decide_eq_true (by kernel_rfl)) (by unfold Func.isWrapper; first | (rw [if_pos (by decide +kernel)]; kernel_rfl) | (rw [if_neg (by decide +kernel)]; exact ⟨rfl, rfl⟩))
    (fun os started H enc _ => lifted os started H enc)

/-- ████ THE STATEMENT ████ -/
theorem proved : Rows.DeltaWholeSaid := over
#print axioms proved
end Go.Proofs.Ytgaliinjjonlmaa.deltaWhole
