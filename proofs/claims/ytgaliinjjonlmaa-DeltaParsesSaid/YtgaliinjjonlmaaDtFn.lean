import Derived.Test.YtgaliinjjonlmaaDtFm
namespace Go.Proofs.Ytgaliinjjonlmaa.Dt
open Go.RowKit
open Go.Proofs.Ytgaliinjjonlmaa.Tp
set_option linter.unusedVariables false

/-- The row being made in a captured variable G. -/
structure Fpr (w : World) (G : Nat) (xs : List Nat) (v : Value) (wr : World) : Prop where
  hv : wr.heap[G]? = some (.cells #[v] 23 (0, 0))
  row : wr.ownsRow w.heap.size 5 1 v xs.length (u8s xs)
  bl : Below w.heap.size w wr
  hG : w.heap.size ≤ G

theorem own_ne {wr : World} {B n k : Nat} {v : Value} {ys : List Value} {cs : Array Value} {t : TypeId} (h : wr.ownsRow B 5 1 v n ys) (hk : wr.heap[k]? = some (.cells cs t (0, 0))) (ht : t ≠ 5) : v.ownBlock ≠ some k := by
  rcases h.2 with ⟨rfl, _⟩ | ⟨g, cap, cur, rfl, hg, hh, _⟩
  · intro e
    cases e
  · intro e
    cases e
    rw [hh] at hk
    injection hk with hk
    injection hk with _ hk _
    exact ht hk.symm

theorem own_slice {wr : World} {B e s n : Nat} {v : Value} {ys : List Value} (h : wr.ownsRow B e s v n ys) : ∃ A k c, v = .slice A k c := by
  rcases h.2 with ⟨rfl, _⟩ | ⟨g, cap, cur, rfl, _⟩
  · exact ⟨_, _, _, rfl⟩
  · exact ⟨_, _, _, rfl⟩

theorem Fpr.box {w wr : World} {G : Nat} {xs : List Nat} {v : Value} (h : Fpr w G xs v wr) (o : Obj) : Fpr w G xs v (wr.alloc o) :=
  ⟨((box_below wr o).block G (lt_of_block h.hv)).trans h.hv, h.row.alloc _, h.bl.trans ((box_below wr o).mono h.bl.size), h.hG⟩

theorem Fpr.below {w wr w' : World} {G : Nat} {xs : List Nat} {v : Value} (h : Fpr w G xs v wr) (hb : Below wr.heap.size wr w') : Fpr w G xs v w' :=
  ⟨(hb.block G (lt_of_block h.hv)).trans h.hv, h.row.kept (row := none) ⟨hb.os, hb.tape, hb.output, hb.size, fun k hk _ => hb.block k hk⟩ (by cases hv : v.ownBlock <;> simp), h.bl.trans (hb.mono h.bl.size), h.hG⟩

theorem Fpr.grown {w wr w3 : World} {G : Nat} {xs : List Nat} {v : Value} (h : Fpr w G xs v wr) (hg : wr.grownBy w3 v.ownBlock) {k : Nat} {cs : Array Value} {t : TypeId} (ht : t ≠ 5) (hk : wr.heap[k]? = some (.cells cs t (0, 0))) : w3.heap[k]? = some (.cells cs t (0, 0)) :=
  (hg.block k (lt_of_block hk) (fun e => own_ne h.row hk ht e.symm)).trans hk

theorem Fpr.store {w wr w3 : World} {G : Nat} {xs bs : List Nat} {v v1 : Value} (h : Fpr w G xs v wr) (hg : wr.grownBy w3 v.ownBlock) (hown : w3.ownsRow w.heap.size 5 1 v1 (xs.length + bs.length) (u8s (xs ++ bs))) : Fpr w G (xs ++ bs) v1 (w3.setCell ⟨G, 0, none⟩ v1) := by
  have h3 := h.grown hg (by decide) h.hv
  have b3 := h.bl.grown hg h.bl.size (fun g e => (h.row.lt g e).1)
  exact ⟨one_setCell h3, by rw [List.length_append]; exact ownsRow_setCell_other hown (own_ne hown h3 (by decide)) _, b3.setCell h.hG _, h.hG⟩

theorem Fpr.keep {w wr w3 : World} {G : Nat} {xs : List Nat} {v v1 : Value} (h : Fpr w G xs v wr) (hg : wr.grownBy w3 v.ownBlock) {k : Nat} {cs : Array Value} {t : TypeId} (ht : t ≠ 5) (hkG : k ≠ G) (hk : wr.heap[k]? = some (.cells cs t (0, 0))) : (w3.setCell ⟨G, 0, none⟩ v1).heap[k]? = some (.cells cs t (0, 0)) := by
  rw [heap_setCell_other _ _ _ _ hkG]
  exact h.grown hg ht hk

def num (n : Nat) : List Nat := [n / 65536 % 256, n / 256 % 256, n % 256]

theorem by_lit {w : World} {bs : List Nat} {cs : Array Value} (hb : ∀ b ∈ bs, b ≤ 255) (hc : cs.toList = u8s bs) (hl : bs.length ≤ 1000) : By (w.alloc (.cells cs 5)) (.slice (some ⟨w.heap.size, 0, none⟩) bs.length bs.length) bs := by
  have e : cs = (u8s bs).toArray := by rw [← hc]
  subst e
  refine ⟨hb, .inr ⟨w.heap.size, 0, bs.length, rfl, Nat.le_refl _, by unfold maxLen; omega, by simp, fun j hj => ?_⟩⟩
  rw [Nat.zero_add, cell_of_row _ _ _ _ _ _ (heap_alloc_new w (.cells (u8s bs).toArray 5))]
  simp [u8s, hj]

set_option maxRecDepth 100000 in
set_option maxHeartbeats 1000000 in
theorem number_any (G n : Nat) (xs : List Nat) (v : Value) (w wr : World) (h : Fpr w G xs v wr) (hn : n ≤ 70000) (hx : xs.length ≤ 60000) :
    Calls Try.prog 60 #[.int .i64 (n : Int), .pointer (some ⟨G, 0, none⟩)] wr fun e w' => e = .returned (.tuple #[]) ∧ (∃ v', Fpr w G (xs ++ num n) v' w') ∧ wr.heap.size ≤ w'.heap.size ∧ ∀ k cs, k ≠ G → wr.heap[k]? = some (.cells cs 54 (0, 0)) → w'.heap[k]? = some (.cells cs 54 (0, 0)) := by
  have H := Lib.hid h
  have c0 := cell_of_one h.hv
  have HA := Lib.hid (h.box (.cells #[.int .u8 ((n : Int) / 65536), .int .u8 ((n : Int) / 256 % 256), .int .u8 ((n : Int) % 256)] 5))
  have hl : By (wr.alloc (.cells #[.int .u8 ((n : Int) / 65536), .int .u8 ((n : Int) / 256 % 256), .int .u8 ((n : Int) % 256)] 5)) (.slice (some ⟨wr.heap.size, 0, none⟩) 3 3) (num n) := by_lit (bs := num n) (fun b hb => by simp [num] at hb; omega) (by simp [u8s, num]; omega) (by simp [num])
  have HL := Lib.hid hl
  clear h hl
  go_enter Try.func60, Try.ntmps60
  go_wp2_with (at_builtin; refine append_by rfl (.tmp 3) (.tmp 12) rfl w.heap.size v _ xs.length xs (num n) rfl rfl HA.out.row HL.out (by simp [num]; omega) HA.out.bl.size ?_; intro v1 w3 own1 gr1; obtain ⟨A1, k1, c1, rfl⟩ := own_slice own1; have hg3 := HA.out.grown gr1 (by decide) HA.out.hv; have q0 := cell_of_one hg3; have q1 := free_of_one hg3; have HO1 := Lib.hid own1; have HG1 := Lib.hid gr1; clear own1 gr1 hg3)
  go_end0
  refine ⟨rfl, ⟨_, HA.out.store HG1.out HO1.out⟩, ?_, fun k cs hk hcs => HA.out.keep HG1.out (by decide) hk (((box_below wr _).block k (lt_of_block hcs)).trans hcs)⟩
  have := HG1.out.size
  simp at this ⊢
  omega

end Go.Proofs.Ytgaliinjjonlmaa.Dt
