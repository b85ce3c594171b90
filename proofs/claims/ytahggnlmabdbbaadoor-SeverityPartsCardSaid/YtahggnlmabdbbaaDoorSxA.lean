import Derived.WalkKit
import Derived.Lib.Hide
import Derived.OrdersHeld
import Derived.Deep.MidRow
import Derived.Laws.Rows
import Derived.Laws.AppendOwn
import Derived.Below
import Derived.Shelf.Abstract
import Derived.IntWalk
namespace Go.Proofs.YtahggnlmabdbbaaDoor.Sx
open Go.RowKit
set_option linter.unusedVariables false
set_option linter.unusedSimpArgs false

/-! ### Slots -/
/-- The slots of an activation: what is written lies on a list, the newest first. -/
def pa (a : Array Value) : List (Nat × Value) → Array Value
  | [] => a
  | p :: al => (pa a al).setIfInBounds p.1 p.2
theorem pa_size (a : Array Value) : ∀ al, (pa a al).size = a.size
  | [] => rfl
  | p :: al => by rw [pa, Array.size_setIfInBounds, pa_size a al]
structure Fr (n : Nat) where
  a : Array Value
  h : a.size = n
def lk (n : Nat) : List (Nat × Value) → Nat → Option Value
  | [], _ => none
  | (a, u) :: al, t => bif Nat.beq a t && Nat.ble (a + 1) n then some u else lk n al t
theorem lk_yes {n p t : Nat} : (Nat.beq p t && Nat.ble (p + 1) n) = true ↔ p = t ∧ p + 1 ≤ n := by
  rw [Bool.and_eq_true]
  exact ⟨fun h => ⟨Nat.eq_of_beq_eq_true h.1, Nat.le_of_ble_eq_true h.2⟩, fun h => ⟨by rw [h.1]; exact Nat.beq_refl t, Nat.ble_eq_true_of_le h.2⟩⟩
theorem lk_pa {n : Nat} (fr : Fr n) : ∀ (al : List (Nat × Value)) (t : Nat) (v : Value), lk n al t = some v → (pa fr.a al)[t]? = some v
  | [], t, v, h => by cases h
  | (a, u) :: al, t, v, h => by
    obtain ⟨p, hp1, hp2⟩ : ∃ p : Nat × Value, p.1 = a ∧ p.2 = u := ⟨(a, u), rfl, rfl⟩
    subst hp1 hp2
    have hs := pa_size fr.a al
    have hn := fr.h
    rw [lk] at h
    rw [pa, Array.getElem?_setIfInBounds]
    cases hb : (Nat.beq p.1 t && Nat.ble (p.1 + 1) n) with
    | true =>
      rw [hb] at h
      simp only [cond_true, Option.some.injEq] at h
      have hb := lk_yes.1 hb
      rw [if_pos hb.1, if_pos (by omega), h]
    | false =>
      rw [hb] at h
      simp only [cond_false] at h
      have ih := lk_pa fr al t v h
      by_cases e : p.1 = t
      · exfalso
        have hlt : t < (pa fr.a al).size := by
          by_cases hh : t < (pa fr.a al).size
          · exact hh
          · rw [Array.getElem?_eq_none (by omega)] at ih; cases ih
        have : (Nat.beq p.1 t && Nat.ble (p.1 + 1) n) = true := lk_yes.2 ⟨e, by omega⟩
        rw [hb] at this
        cases this
      · rw [if_neg e]; exact ih
def Fa {n : Nat} (fr : Fr n) (al : List (Nat × Value)) : Act := ⟨pa fr.a al, []⟩
def eo (n : Nat) (al : List (Nat × Value)) : Operand → Option Value
  | .tmp t => lk n al t
  | .const v => some v
  | .global g => some (.pointer (some ⟨g, 0, none⟩))
  | .func f => some (.func (.func f) #[] #[])
def eos (n : Nat) (al : List (Nat × Value)) : List Operand → Option (List Value)
  | [] => some []
  | x :: l => match eo n al x with
    | none => none
    | some v => match eos n al l with
      | none => none
      | some vs => some (v :: vs)
theorem eo_eval {n : Nat} {fr : Fr n} {al : List (Nat × Value)} {x : Operand} {v : Value} (h : eo n al x = some v) : (Fa fr al).eval x = v := by
  cases x with
  | tmp t => simp only [eo] at h; simp [Fa, Act.eval, lk_pa fr al t v h]
  | const c => simp only [eo, Option.some.injEq] at h; exact h
  | global g => simp only [eo, Option.some.injEq] at h; exact h
  | func f => simp only [eo, Option.some.injEq] at h; exact h
theorem eos_eval {n : Nat} {fr : Fr n} {al : List (Nat × Value)} : ∀ {l : List Operand} {vs : List Value}, eos n al l = some vs → l.map (Fa fr al).eval = vs
  | [], vs, h => by simp only [eos, Option.some.injEq] at h; rw [← h]; rfl
  | x :: l, vs, h => by
    rw [eos] at h
    cases hx : eo n al x with
    | none => rw [hx] at h; cases h
    | some v =>
      cases hl : eos n al l with
      | none => rw [hx, hl] at h; cases h
      | some us =>
        rw [hx, hl] at h
        simp only [Option.some.injEq] at h
        rw [List.map_cons, eo_eval hx, eos_eval hl, h]
def eop (n : Nat) (al : List (Nat × Value)) : List (Nat × Operand) → Option (List (Nat × Value))
  | [] => some []
  | p :: l => match eo n al p.2 with
    | none => none
    | some v => match eop n al l with
      | none => none
      | some vs => some ((p.1, v) :: vs)
theorem eop_eval {n : Nat} {fr : Fr n} {al : List (Nat × Value)} : ∀ {l : List (Nat × Operand)} {vs : List (Nat × Value)}, eop n al l = some vs → l.map (fun p => (p.1, (Fa fr al).eval p.2)) = vs
  | [], vs, h => by simp only [eop, Option.some.injEq] at h; rw [← h]; rfl
  | p :: l, vs, h => by
    rw [eop] at h
    cases hx : eo n al p.2 with
    | none => rw [hx] at h; cases h
    | some v =>
      cases hl : eop n al l with
      | none => rw [hx, hl] at h; cases h
      | some us =>
        rw [hx, hl] at h
        simp only [Option.some.injEq] at h
        rw [List.map_cons, eo_eval hx, eop_eval hl, h]
/-- The list tells all of the named slots of another one. -/
def Agr (n : Nat) (al : List (Nat × Value)) : List (Nat × Value) → Prop
  | [] => True
  | p :: l => lk n al p.1 = some p.2 ∧ Agr n al l
theorem pa_same (a : Array Value) : ∀ l : List (Nat × Value), (∀ p ∈ l, a[p.1]? = some p.2) → pa a l = a
  | [], _ => rfl
  | p :: l, h => by
    rw [pa, pa_same a l (fun q hq => h q (List.mem_cons_of_mem _ hq))]
    have := h p List.mem_cons_self
    apply Array.ext_getElem?
    intro i
    rw [Array.getElem?_setIfInBounds]
    by_cases e : p.1 = i
    · subst e
      rw [if_pos rfl, this]
      have hlt : p.1 < a.size := by
        by_cases hh : p.1 < a.size
        · exact hh
        · rw [Array.getElem?_eq_none (by omega)] at this; cases this
      rw [if_pos hlt]
    · rw [if_neg e]
theorem Agr.mem {n : Nat} {al : List (Nat × Value)} : ∀ {l : List (Nat × Value)}, Agr n al l → ∀ p ∈ l, lk n al p.1 = some p.2
  | [], _, p, hp => by cases hp
  | q :: l, h, p, hp => by
    rcases List.mem_cons.1 hp with rfl | hp
    · exact h.1
    · exact Agr.mem h.2 p hp
/-- An activation is one over the named slots alone. -/
theorem Fa_live {n : Nat} (fr : Fr n) {al l : List (Nat × Value)} (h : Agr n al l) : ∃ fr' : Fr n, Fa fr al = Fa fr' l :=
  ⟨⟨pa fr.a al, by rw [pa_size, fr.h]⟩, by
    unfold Fa
    rw [pa_same _ l (fun p hp => lk_pa fr al p.1 p.2 (h.mem p hp))]⟩

/-! ### The steps of code -/
/-- 'wpList', shut: so that nothing looks into it. -/
structure Wl (P : Program) (ops : Array Oper) (Q : Exit → Act → World → Prop) (l : List Oper) (a : Act) (w : World) : Prop where
  out : wpList P ops Q l a w
theorem wnil {P : Program} {ops : Array Oper} {Q : Exit → Act → World → Prop} {a : Act} {w : World} (h : Q .normal a w) : Wl P ops Q [] a w := ⟨h⟩
theorem wstep {P : Program} {ops : Array Oper} {Q : Exit → Act → World → Prop} {rest : List Oper} {o : Oper} {a : Act} {w : World}
    (h : ∀ K : Act → World → Prop, (∀ a w, Wl P ops Q rest a w → K a w) → if Region.wanted o (yielded ops a.tmps) then o.wp P a w K Q else K (a.put o.dst undef) w) : Wl P ops Q (o :: rest) a w :=
  ⟨wpList_step fun K hK => h K (fun a w h => hK a w h.out)⟩
section
variable {P : Program} {Q : Exit → Act → World → Prop} {w : World} {n : Nat} {fr : Fr n} {al : List (Nat × Value)}

def enu : Nat → List Value → List (Nat × Value)
  | _, [] => []
  | i, v :: l => (i, v) :: enu (i + 1) l
theorem enu_mem : ∀ (l : List Value) (i : Nat) (p : Nat × Value), p ∈ enu i l → ∃ j, p.1 = i + j ∧ l[j]? = some p.2
  | [], _, p, h => by cases h
  | v :: l, i, p, h => by
    rcases List.mem_cons.1 h with rfl | h
    · exact ⟨0, rfl, rfl⟩
    · obtain ⟨j, h1, h2⟩ := enu_mem l (i + 1) p h
      exact ⟨j + 1, by omega, by simpa using h2⟩
theorem enter {f : FuncId} {fn : Func} {c : Code} {l : List Value} {R : Ending → World → Prop} (hf : P.funcs[f]? = some fn) (hb : fn.body = some c) (hn : fn.ntmps = n) (hl : Nat.ble l.length n = true)
    (h : ∀ fr : Fr n, c.wp P (bodyPost P fn R) (Fa fr (enu 0 l)) w) : Calls P f l.toArray w R := by
  refine calls_of_wp hf hb ?_
  have hl' : l.length ≤ n := by simpa using hl
  have hs : (l.toArray ++ Array.replicate (fn.ntmps - l.toArray.size) undef).size = n := by simp [hn]; omega
  have := h ⟨_, hs⟩
  have e : pa (l.toArray ++ Array.replicate (fn.ntmps - l.toArray.size) undef) (enu 0 l) = l.toArray ++ Array.replicate (fn.ntmps - l.toArray.size) undef := by
    refine pa_same _ _ (fun p hp => ?_)
    obtain ⟨j, h1, h2⟩ := enu_mem l 0 p hp
    have hj : j < l.length := (List.getElem?_eq_some_iff.1 h2).1
    rw [show p.1 = j by omega, Array.getElem?_append_left (by simpa using hj)]
    simpa using h2
  unfold Fa at this
  simp only [e] at this
  exact this

theorem seq {x y : Code} (h : x.wp P (Exit.then (y.wp P Q) Q) (Fa fr al) w) : (Code.seq x y).wp P Q (Fa fr al) w := wp_seq h
theorem reg {id : Nat} {l : List Oper} (h : Wl P l.toArray Q l (Fa fr al) w) : (Code.region id l.toArray false).wp P Q (Fa fr al) w := wp_region_lit h.out
theorem ct {c : Operand} {x y : Code} {b : Bool} (hc : eo n al c = some (.bool b)) (hb : b = true) (h : x.wp P Q (Fa fr al) w) : (Code.cond c x y).wp P Q (Fa fr al) w := wp_cond_true (by rw [eo_eval hc, hb]) h
theorem cf {c : Operand} {x y : Code} {b : Bool} (hc : eo n al c = some (.bool b)) (hb : b = false) (h : y.wp P Q (Fa fr al) w) : (Code.cond c x y).wp P Q (Fa fr al) w := wp_cond_false (by rw [eo_eval hc, hb]) h
theorem cs {c : Operand} {x y : Code} {b : Bool} (hc : eo n al c = some (.bool b)) (ht : b = true → x.wp P Q (Fa fr al) w) (hf : b = false → y.wp P Q (Fa fr al) w) : (Code.cond c x y).wp P Q (Fa fr al) w := by
  cases b with
  | true => exact ct hc rfl (ht rfl)
  | false => exact cf hc rfl (hf rfl)
theorem blk {id : Nat} {c : Code} (h : c.wp P (Exit.inBlock id Q) (Fa fr al) w) : (Code.block id c).wp P Q (Fa fr al) w := wp_block h
/-- What the end of a round must say. -/
def Nxt {G : Type} (n : Nat) (live : G → List (Nat × Value)) (R : G → World → Prop) (μ : G → Nat) (m : Nat) : Act → World → Prop :=
  fun a2 w2 => ∃ (g2 : G) (fr2 : Fr n), a2 = Fa fr2 (live g2) ∧ R g2 w2 ∧ μ g2 < m
/-- A loop: ghosts, the slots that are named, what holds, a measure. -/
theorem lp {c : Code} (G : Type) (live : G → List (Nat × Value)) (R : G → World → Prop) (μ : G → Nat) (g0 : G) (ha : Agr n al (live g0)) (hR : R g0 w)
    (round : ∀ (g : G) (fr' : Fr n) (w' : World), R g w' → c.wp P (Exit.then (Nxt n live R μ (μ g)) Q) (Fa fr' (live g)) w') : (Code.loop c).wp P Q (Fa fr al) w := by
  intro b k cs
  have key : ∀ (m : Nat) (g : G) (fr' : Fr n) (w' : World), μ g = m → R g w' →
      ∃ e a' w2, Q e a' w2 ∧ Arrives P (lone (b.at (Fa fr' (live g)) (.code c :: .inLoop c :: k)) cs w') b k cs e a' w2 := by
    intro m
    induction m using Nat.strongRecOn with
    | _ m ih =>
      intro g fr' w' hm hg
      obtain ⟨e, a1, w1, hq, harr⟩ := round g fr' w' hg b (.inLoop c :: k) cs
      cases e with
      | normal =>
        obtain ⟨g2, fr2, rfl, hg2, hlt⟩ := hq
        obtain ⟨e2, a2, w2, hq2, harr2⟩ := ih (μ g2) (hm ▸ hlt) g2 fr2 w1 rfl hg2
        exact ⟨e2, a2, w2, hq2, .of_steps (Steps.trans harr (.one step_inLoop)) harr2⟩
      | exit id => exact ⟨_, a1, w1, hq, .pass (x := .inLoop c) rfl (fun _ _ => .inl (by simp)) harr⟩
      | goto l => exact ⟨_, a1, w1, hq, .pass (x := .inLoop c) rfl (fun _ _ => .inl (by simp)) harr⟩
      | ret => exact ⟨_, a1, w1, hq, .pass (x := .inLoop c) rfl (fun _ _ => .inl (by simp)) harr⟩
      | panic ch => exact ⟨_, a1, w1, hq, .pass (x := .inLoop c) rfl (fun _ _ => .inl (by simp)) harr⟩
      | outgrown => exact ⟨_, a1, w1, hq, .pass (x := .inLoop c) rfl (fun _ _ => .inl (by simp)) harr⟩
  obtain ⟨fr', e⟩ := Fa_live fr ha
  rw [e]
  obtain ⟨e1, a1, w1, hq, harr⟩ := key _ g0 fr' w rfl hR
  exact ⟨e1, a1, w1, hq, .of_steps (.one step_loop) harr⟩
def Mid {G : Type} (n : Nat) (live : G → List (Nat × Value)) (R : G → World → Prop) : Act → World → Prop := fun a w => ∃ (g : G) (fr2 : Fr n), a = Fa fr2 (live g) ∧ R g w
/-- Ways meet again. -/
theorem cutR {c : Code} (G : Type) (live : G → List (Nat × Value)) (R : G → World → Prop) (h : c.wp P (Exit.then (Mid n live R) Q) (Fa fr al) w) (k : ∀ (g : G) (fr' : Fr n) (w' : World), R g w' → Q .normal (Fa fr' (live g)) w') : c.wp P Q (Fa fr al) w :=
  wp_mono h (fun e a w q => by
    cases e with
    | normal => obtain ⟨g, fr2, rfl, hg⟩ := q; exact k g fr2 w hg
    | exit id => exact q
    | goto l => exact q
    | ret => exact q
    | panic ch => exact q
    | outgrown => exact q)
theorem midE {G : Type} {live : G → List (Nat × Value)} {R : G → World → Prop} (g : G) (ha : Agr n al (live g)) (hR : R g w) : Mid n live R (Fa fr al) w := by
  obtain ⟨fr2, e⟩ := Fa_live fr ha
  exact ⟨g, fr2, e, hR⟩
theorem lpe {G : Type} {live : G → List (Nat × Value)} {R : G → World → Prop} {μ : G → Nat} {m : Nat} (g2 : G) (ha : Agr n al (live g2)) (hR : R g2 w) (hm : μ g2 < m) : Nxt n live R μ m (Fa fr al) w := by
  obtain ⟨fr2, e⟩ := Fa_live fr ha
  exact ⟨g2, fr2, e, hR, hm⟩
end

end Go.Proofs.YtahggnlmabdbbaaDoor.Sx
