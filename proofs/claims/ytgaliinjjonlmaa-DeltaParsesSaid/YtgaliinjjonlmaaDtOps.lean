import Derived.Test.YtgaliinjjonlmaaDtApp
import Derived.Maps.AppendAt
import Derived.Lib.LazyBuf
namespace Go.Proofs.Ytgaliinjjonlmaa.Dt
open Go.RowKit
open Go.Proofs.Ytgaliinjjonlmaa.Tp
set_option linter.unusedVariables false

theorem zinfo54 : (Try.prog.info? 54).map (fun i => (i.zero, i.size, i.bytes)) = some (some (.agg #[.int .i64 0, .int .i64 0, .slice none 0 0]), 3, 40) := by kernel_rfl

/-- The cells of operations, one behind the other. -/
def ocs : List (O × Value) → List Value
  | [] => []
  | p :: ps => [.int .i64 (p.1.f : Int), .int .i64 (p.1.s : Int), p.2] ++ ocs ps

theorem ocs_len : ∀ ps, (ocs ps).length = ps.length * 3
  | [] => rfl
  | p :: ps => by
    have := ocs_len ps
    simp [ocs, this]
    omega

theorem ocs_snoc : ∀ (ps : List (O × Value)) (p : O × Value), ocs (ps ++ [p]) = ocs ps ++ [.int .i64 (p.1.f : Int), .int .i64 (p.1.s : Int), p.2]
  | [], p => by simp [ocs]
  | q :: ps, p => by simp [ocs, ocs_snoc ps p]

theorem ocs_at : ∀ (ps : List (O × Value)) (j : Nat), j < ps.length → (ocs ps)[j * 3]? = some (.int .i64 (((ps.map (·.1)).getD j o0).f : Nat)) ∧ (ocs ps)[j * 3 + 1]? = some (.int .i64 (((ps.map (·.1)).getD j o0).s : Nat)) ∧ (ocs ps)[j * 3 + 2]? = some ((ps.map (·.2)).getD j undef)
  | [], j, h => absurd h (by simp)
  | q :: ps, 0, h => by simp [ocs]
  | q :: ps, j + 1, h => by
    have ih := ocs_at ps j (by simpa using h)
    simp only [ocs]
    have e : ∀ c, (j + 1) * 3 + c = 3 + (j * 3 + c) := fun c => by omega
    have e0 : (j + 1) * 3 = 3 + j * 3 := by omega
    rw [e 1, e 2, e0]
    have k : ∀ c, ([Value.int .i64 (q.1.f : Int), .int .i64 (q.1.s : Int), q.2] ++ ocs ps)[3 + c]? = (ocs ps)[c]? := fun c => by
      rw [List.getElem?_append_right (by simp)]
      congr 1
      simp
    rw [k, k, k]
    simpa using ih

/-- A row of operations of the call's own. -/
structure St (w : World) (ps : List (O × Value)) (v : Value) (wr : World) : Prop where
  row : wr.ownsRow w.heap.size 54 3 v ps.length (ocs ps)
  by_ : ∀ p ∈ ps, By wr p.2 p.1.d
  ne : ∀ p ∈ ps, ∀ b off n c, p.2 = .slice (some ⟨b, off, none⟩) n c → v.ownBlock ≠ some b
  bl : Below w.heap.size w wr

theorem St.below {w wr w' : World} {ps : List (O × Value)} {v : Value} (h : St w ps v wr) (hb : Below wr.heap.size wr w') : St w ps v w' :=
  ⟨h.row.kept (row := none) ⟨hb.os, hb.tape, hb.output, hb.size, fun k hk _ => hb.block k hk⟩ (by cases hv : v.ownBlock <;> simp), fun p hp => (h.by_ p hp).below hb, h.ne, h.bl.trans (hb.mono h.bl.size)⟩

theorem By.grown {w w' : World} {v : Value} {bs : List Nat} {row : Option Nat} (h : By w v bs) (hg : w.grownBy w' row) (hn : ∀ b off n c, v = .slice (some ⟨b, off, none⟩) n c → row ≠ some b) : By w' v bs := by
  refine ⟨h.1, ?_⟩
  rcases h.2 with h2 | ⟨b, off, c, e, h1, h2, h3, h4⟩
  · exact .inl h2
  · exact .inr ⟨b, off, c, e, h1, h2, Nat.lt_of_lt_of_le h3 hg.size, fun j hj => (World.cell?_of_block (w := w) (a := ⟨b, off + j, none⟩) (hg.block b h3 (fun e2 => hn b off _ c e e2.symm))).trans (h4 j hj)⟩

theorem By.lt {w : World} {v : Value} {bs : List Nat} (h : By w v bs) {b off n c : Nat} (e : v = .slice (some ⟨b, off, none⟩) n c) : b < w.heap.size := by
  rcases h.2 with ⟨e2, _⟩ | ⟨b', off', c', e2, _, _, h3, _⟩
  · rw [e] at e2
    cases e2
  · rw [e] at e2
    cases e2
    exact h3

/-- One operation more. -/
theorem St.more {w wr w3 : World} {ps : List (O × Value)} {v v' dv : Value} {o : O} {box : Obj} (h : St w ps v wr) (hd : By wr dv o.d) (hn : ∀ b off n c, dv = .slice (some ⟨b, off, none⟩) n c → v.ownBlock ≠ some b)
    (hown : w3.ownsRow w.heap.size 54 3 v' (ps.length + 1) (ocs ps ++ [.int .i64 (o.f : Int), .int .i64 (o.s : Int), dv])) (hg : (wr.alloc box).grownBy w3 v.ownBlock) (hat : v'.ownBlock = v.ownBlock ∨ v'.ownBlock = some (wr.alloc box).heap.size) : St w (ps ++ [(o, dv)]) v' w3 := by
  have hb := h.below (box_below wr box)
  have all : ∀ p ∈ ps ++ [(o, dv)], By wr p.2 p.1.d ∧ ∀ b off n c, p.2 = .slice (some ⟨b, off, none⟩) n c → v.ownBlock ≠ some b := by
    intro p hp
    rcases List.mem_append.1 hp with hp | hp
    · exact ⟨h.by_ p hp, h.ne p hp⟩
    · have := List.mem_singleton.1 hp
      subst this
      exact ⟨hd, hn⟩
  refine ⟨by rw [ocs_snoc]; simpa using hown, fun p hp => ((all p hp).1.below (box_below wr box)).grown hg (all p hp).2, fun p hp b off n c e => ?_, hb.bl.grown hg hb.bl.size (fun g e => (h.row.lt g e).1)⟩
  rcases hat with hat | hat
  · rw [hat]
    exact (all p hp).2 b off n c e
  · rw [hat]
    intro e2
    have := (all p hp).1.lt e
    have e3 := Option.some.inj e2
    simp at e3
    omega

theorem St.olies {w wr : World} {ps : List (O × Value)} {v : Value} (h : St w ps v wr) : ∃ A c, v = .slice A ps.length c ∧ OLies wr A ps.length (ps.map (·.1)) (ps.map (·.2)) := by
  have hby : ∀ j, j < ps.length → By wr ((ps.map (·.2)).getD j undef) ((ps.map (·.1)).getD j o0).d := by
    intro j hj
    have := h.by_ ps[j] (List.getElem_mem hj)
    simpa [List.getD_eq_getElem?_getD, hj] using this
  have hrow := h.row
  rcases h.row.2 with ⟨rfl, e⟩ | ⟨g, cap, cur, rfl, hb, hh, hnc, hcm, _⟩
  · exact ⟨none, 0, by rw [e], ⟨by simp, by simp, fun h => absurd h (by omega), hby⟩⟩
  · refine ⟨_, _, rfl, ⟨by simp, by simp, fun h0 => ⟨g, 0, rfl, row_lt hh, fun j hj => ?_⟩, hby⟩⟩
    obtain ⟨a1, a2, a3⟩ := ocs_at ps j hj
    rw [Nat.zero_add]
    exact ⟨by rw [hrow.cellAt (j * 3) (by omega), a1], by rw [hrow.cellAt (j * 3 + 1) (by omega), a2], by rw [hrow.cellAt (j * 3 + 2) (by omega), a3]⟩

theorem by_own {w : World} {base n : Nat} {v : Value} {bs : List Nat} (h : w.ownsRow base 5 1 v n (u8s bs)) (hl : bs.length = n) (hb : ∀ b ∈ bs, b ≤ 255) : By w v bs ∧ ∀ b off k c, v = .slice (some ⟨b, off, none⟩) k c → base ≤ b := by
  have h' := h
  subst hl
  rcases h.2 with ⟨rfl, e⟩ | ⟨g, cap, cur, rfl, hg, hh, hnc, hcm, _⟩
  · exact ⟨⟨hb, (.inl ⟨rfl, List.eq_nil_of_length_eq_zero e⟩)⟩, fun b off k c e => by cases e⟩
  · refine ⟨⟨hb, .inr ⟨g, 0, cap, rfl, hnc, hcm, row_lt hh, fun j hj => ?_⟩⟩, fun b off k c e => by cases e; exact hg⟩
    rw [Nat.zero_add, h'.cellAt j (by omega)]
    simp [u8s, hj]

set_option maxRecDepth 100000 in
set_option maxHeartbeats 400000 in
theorem clone_any (A : Option Addr) (k c : Nat) (bs : List Nat) (w : World) (h : By w (.slice A k c) bs) (hl : bs.length = k) (hk : 1 ≤ k) (hk2 : k ≤ 1000) :
    Calls Try.prog 55 #[.slice A k c] w fun e w' => ∃ B cc, e = .returned (.slice B k cc) ∧ By w' (.slice B k cc) bs ∧ (∀ a, B = some a → w.heap.size ≤ a.block) ∧ Below w.heap.size w w' := by
  have hA : ∃ b off, A = some ⟨b, off, none⟩ := by
    rcases h.2 with ⟨e, rfl⟩ | ⟨b, off, c', e, _⟩
    · simp at hl
      omega
    · cases e
      exact ⟨b, off, rfl⟩
  obtain ⟨b, off, rfl⟩ := hA
  have HB := Lib.hid (h.below (box_below w (.cells #[] 5)))
  have H1 := Lib.hid h.1
  clear h
  have hnil : ∀ W : World, (binOp .eql 23 (.slice (some ⟨b, off, none⟩) k c) (.slice none 0 0)).run Try.prog W = .ok (.bool false) W := fun W => Lib.run_eql_slice_nil W 23 5 _ k c 0 0 Try.underlying23
  go_enter Try.func55, Try.ntmps55
  go_wp2_with (at_builtin; refine append_by rfl (.tmp 5) (.tmp 6) rfl w.heap.size _ _ 0 [] bs rfl rfl ?_ ?_ (by omega) (by simp) ?_; (exact World.ownsRow_lit _ #[] 0 (Nat.le_refl _) (by unfold maxLen; omega) rfl); (exact HB.out); intro v1 w3 own1 gr1; have HO := Lib.hid own1; have HG := Lib.hid gr1; clear own1 gr1)
  go_ret
  have ho := HO.out
  rw [List.nil_append, Nat.zero_add] at ho
  obtain ⟨hby, hfar⟩ := by_own ho rfl H1.out
  obtain ⟨B, cc, e⟩ := hby.form
  subst e
  rw [hl] at hby ⊢
  refine ⟨B, cc, rfl, hby, fun a e => ?_, ((Below.refl _ w).alloc (Nat.le_refl _) _).grown HG.out (by simp) (fun g e => (World.ownsRow.lt (World.ownsRow_lit w #[] 0 (Nat.le_refl _) (by unfold maxLen; omega) rfl : (w.alloc (.cells #[] 5)).ownsRow w.heap.size 5 1 _ 0 (u8s [])) g e).1)⟩
  obtain ⟨b', off', sp⟩ := a
  cases e
  rcases hby.2 with ⟨e, _⟩ | ⟨b2, off2, c2, e, _⟩
  · cases e
  · cases e
    exact hfar _ _ _ _ (by rw [hl])

end Go.Proofs.Ytgaliinjjonlmaa.Dt
