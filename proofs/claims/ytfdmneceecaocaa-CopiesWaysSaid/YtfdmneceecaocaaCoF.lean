import Derived.Test.YtfdmneceecaocaaCoD
import Derived.Test.YtfdmneceecaocaaCoE
namespace Go.Proofs.Ytfdmneceecaocaa.Di
open Go.RowKit
open Go.Proofs.Ytfdmneceecaocaa.Tp
set_option linter.unusedVariables false

/-- A stay. -/
structure Sy where
  p : Int
  f : Int
  u : Int
def s0 : Sy := ⟨0, 0, 0⟩
def sy (L : List Sy) (j : Nat) : Sy := L.getD j s0
def setL (L : List Sy) (t : Int) : List Sy := L.dropLast ++ [⟨(L.getLastD s0).p, (L.getLastD s0).f, t⟩]
theorem setL_app (L : List Sy) (x : Sy) (t : Int) : setL (L ++ [x]) t = L ++ [⟨x.p, x.f, t⟩] := by
  unfold setL
  rw [List.dropLast_concat, List.getLastD_concat]
theorem list_snoc {α : Type} {L : List α} (h : 0 < L.length) : ∃ L' x, L = L' ++ [x] := by
  rcases List.eq_nil_or_concat L with e | ⟨L', x, e⟩
  · rw [e] at h; simp at h
  · exact ⟨L', x, by rw [e, List.concat_eq_append]⟩
/-- Was it there, at the time before? -/
def bf (q : Nat → Bool) (i : Nat) : Bool := if i = 0 then false else q (i - 1)
theorem bf_succ (q : Nat → Bool) (i : Nat) : bf q (i + 1) = q i := by unfold bf; rw [if_neg (by omega)]; rfl
/-- The stays of a place, behind those of the places before, at the first times. -/
def sI (L0 : List Sy) (p : Int) (q : Nat → Bool) (T : List Nat) : Nat → List Sy
  | 0 => L0
  | i + 1 => if q i && !bf q i then sI L0 p q T i ++ [⟨p, (T.getD i 0 : Nat), 1099511627777⟩] else if bf q i && !q i then setL (sI L0 p q T i) (T.getD i 0 : Nat) else sI L0 p q T i
def sA (q : Nat → Nat → Bool) (T : List Nat) : Nat → List Sy
  | 0 => []
  | p + 1 => sI (sA q T p) p (q p) T T.length
theorem sI_len (L0 : List Sy) (p : Int) (q : Nat → Bool) (T : List Nat) : ∀ i, (sI L0 p q T i).length ≤ L0.length + i ∧ (bf q i = true → 0 < (sI L0 p q T i).length)
  | 0 => ⟨Nat.le_refl _, fun h => by cases h⟩
  | i + 1 => by
    obtain ⟨h1, h2⟩ := sI_len L0 p q T i
    rw [sI, bf_succ]
    cases hq : q i with
    | true =>
      cases hb : bf q i with
      | true => exact ⟨by simp; omega, fun _ => by simpa using h2 hb⟩
      | false => exact ⟨by simp; omega, fun _ => by simp⟩
    | false =>
      cases hb : bf q i with
      | true =>
        obtain ⟨L', x, e⟩ := list_snoc (h2 hb)
        rw [e] at h1 ⊢
        refine ⟨?_, fun h => by cases h⟩
        simp [setL_app] at h1 ⊢
        omega
      | false => exact ⟨by simp; omega, fun h => by cases h⟩
theorem sA_len (q : Nat → Nat → Bool) (T : List Nat) : ∀ p, (sA q T p).length ≤ p * T.length
  | 0 => by simp [sA]
  | p + 1 => by
    rw [sA]
    have h1 := (sI_len (sA q T p) p (q p) T T.length).1
    have h2 := sA_len q T p
    rw [Nat.add_mul, Nat.one_mul]
    omega
/-- Stays as cells. -/
def sv (L : List Sy) : List Value := L.flatMap fun x => [.int .i64 x.p, .int .i64 x.f, .int .i64 x.u]
theorem sv_snoc (L : List Sy) (x : Sy) : sv (L ++ [x]) = sv L ++ [.int .i64 x.p, .int .i64 x.f, .int .i64 x.u] := by simp [sv]
theorem sv_len (L : List Sy) : (sv L).length = L.length * 3 := by
  induction L with
  | nil => rfl
  | cons x L ih => simp only [sv, List.flatMap_cons, List.length_append, List.length_cons, List.length_nil] at ih ⊢; omega
theorem sv_set (L : List Sy) (x : Sy) (t : Int) : (sv (L ++ [x])).set (L.length * 3 + 2) (.int .i64 t) = sv (L ++ [⟨x.p, x.f, t⟩]) := by
  rw [sv_snoc, sv_snoc, List.set_append_right _ _ (by rw [sv_len]; omega), sv_len, show L.length * 3 + 2 - L.length * 3 = 2 by omega]
  rfl
theorem own_putS {W : World} {B n c G p s : Nat} {e : TypeId} {u : Value} {xs : List Value} (h : W.ownsRow B e s (.slice (some ⟨G, 0, none⟩) n c) n xs) (hp : p < n * s) :
    W.cell? ⟨G, p, none⟩ = xs[p]? ∧ W.frozen? ⟨G, p, none⟩ = false ∧ (W.setCell ⟨G, p, none⟩ u).ownsRow B e s (.slice (some ⟨G, 0, none⟩) n c) n (xs.set p u) ∧ W.grownBy (W.setCell ⟨G, p, none⟩ u) (some G) := by
  rcases h.2 with ⟨hv, _⟩ | ⟨g', cap, cur, hv, hB, hh, h1, h2, h3, ht⟩
  · cases hv
  · cases hv
    have hl := h.1
    have hnc := Nat.mul_le_mul_right s h1
    refine ⟨?_, frozen_of_row _ _ _ _ _ hh, ⟨by rw [List.length_set]; exact hl, .inr ⟨G, c, cur.setIfInBounds p u, rfl, hB, ?_, h1, h2, by simpa using h3, ?_⟩⟩, gb_set _ _ _ _⟩
    · rw [cell_of_row _ _ _ _ _ _ hh, ← ht, List.getElem?_take_of_lt (by omega)]
      simp
    · rw [setCell_eq_setRow _ _ _ _ _ _ _ hh]
      exact setRow_heap _ _ _ _ _ _ hh
    · rw [← ht, Array.toList_setIfInBounds, List.take_set]
theorem own_some {W : World} {B n c e s : Nat} {A : Option Addr} {xs : List Value} (h : W.ownsRow B e s (.slice A n c) n xs) (hn : 0 < n) : ∃ G, A = some ⟨G, 0, none⟩ := by
  rcases h.2 with ⟨_, e⟩ | ⟨g', cap, cur, hv, _⟩
  · omega
  · cases hv; exact ⟨g', rfl⟩
theorem rl_snoc {α : Type} (f : Nat → α) (n : Nat) : rl f (n + 1) = rl f n ++ [f n] := by
  unfold rl
  rw [List.range_succ, List.map_append]
  rfl
theorem rl_congr {α : Type} {f g : Nat → α} {n : Nat} (h : ∀ j, j < n → f j = g j) : rl f n = rl g n := by
  unfold rl
  exact List.map_congr_left fun p hp => h p (List.mem_range.1 hp)
/-- Lists in memory, under way. -/
structure WL (w : World) (B : Nat) (A : Option Addr) (n cp : Nat) (h : Nat → Option Addr) (cc : Nat → Nat) (f : Nat → List Nat) : Prop where
  out : w.ownsRow B 22 1 (.slice A n cp) n (rl (fun p => Value.slice (h p) (f p).length (cc p)) n)
  row : ∀ p, p < n → w.ownsRow B 3 1 (.slice (h p) (f p).length (cc p)) (f p).length (iv (f p))
theorem WL.below {w w' : World} {B n cp : Nat} {A : Option Addr} {h : Nat → Option Addr} {cc : Nat → Nat} {f : Nat → List Nat} (H : WL w B A n cp h cc f) (hb : Below w.heap.size w w') : WL w' B A n cp h cc f := ⟨own_below H.out hb, fun p hp => own_below (H.row p hp) hb⟩
theorem WL.cell {w : World} {B n cp : Nat} {A : Option Addr} {h : Nat → Option Addr} {cc : Nat → Nat} {f : Nat → List Nat} (H : WL w B A n cp h cc f) {p : Nat} (hp : p < n) : ∃ G, A = some ⟨G, 0, none⟩ ∧ w.cell? ⟨G, p, none⟩ = some (.slice (h p) (f p).length (cc p)) := by
  obtain ⟨G, rfl⟩ := own_some H.out (by omega)
  refine ⟨G, rfl, ?_⟩
  have := (own_put (u := .bool true) H.out hp).1
  rw [rl_at _ _ _ hp] at this
  exact this
theorem WL.snoc {W w6 : World} {B k cp : Nat} {A : Option Addr} {h : Nat → Option Addr} {cc : Nat → Nat} {f : Nat → List Nat} (H : WL W B A k cp h cc f) {X A2 : Option Addr} {c c2 B' : Nat} {o : Obj} (hX : W.ownsRow B' 3 1 (.slice X (f k).length c) (f k).length (iv (f k))) (hB : B ≤ B')
    (hgr : (W.alloc o).grownBy w6 (Value.slice A k cp).ownBlock) (hown : w6.ownsRow B 22 1 (.slice A2 (k + 1) c2) (k + 1) (rl (fun p => Value.slice (h p) (f p).length (cc p)) k ++ [.slice X (f k).length c])) :
    WL w6 B A2 (k + 1) c2 (fun j => if j = k then X else h j) (fun j => if j = k then c else cc j) f := by
  have hb := box_below W o
  have key : ∀ {B1 : Nat} {A' : Option Addr} {c' m : Nat} {xs : List Value}, W.ownsRow B1 3 1 (.slice A' m c') m xs → w6.ownsRow B1 3 1 (.slice A' m c') m xs := fun hr =>
    kept_ne (own_below hr hb) hgr (fun g e => own_ne (own_below H.out hb) (own_below hr hb) (by decide) g e)
  refine ⟨?_, fun p hp => ?_⟩
  · rw [rl_snoc]
    simp only [if_pos]
    have e : rl (fun p => Value.slice (if p = k then X else h p) (f p).length (if p = k then c else cc p)) k = rl (fun p => Value.slice (h p) (f p).length (cc p)) k :=
      rl_congr fun j hj => by simp only [if_neg (show ¬ j = k by omega)]
    rw [e]
    exact hown
  · by_cases e : p = k
    · subst e
      simp only [if_pos]
      exact own_base (key hX) hB
    · simp only [if_neg e]
      exact key (H.row p (by omega))

end Go.Proofs.Ytfdmneceecaocaa.Di
