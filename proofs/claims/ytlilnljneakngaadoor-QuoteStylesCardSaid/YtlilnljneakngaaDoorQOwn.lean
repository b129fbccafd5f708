/-
  A scope in which the run jumps among labels; a slice of bytes that a call has made itself: what append does, and what it is as a text. Conditions: at most 1000000000 bytes.
-/
import Derived.Test.YtlilnljneakngaaDoorQEsc
import Derived.Laws.IdiomStrings
set_option linter.unusedVariables false
namespace Go.Proofs.YtlilnljneakngaaDoor
open Go.RowKit

section
variable {P : Program} {Q : Exit → Act → World → Prop}
/-- As Q; by a jump to a label: what holds at that label. -/
def hops (J : Nat → Act → World → Prop) (Q : Exit → Act → World → Prop) (e : Exit) (a : Act) (w : World) : Prop :=
  match e with
  | .goto l => J l a w
  | e => Q e a w
theorem hops_mono {J J' : Nat → Act → World → Prop} (h : ∀ l a w, J l a w → J' l a w) (e : Exit) (a : Act) (w : World) : hops J Q e a w → hops J' Q e a w := by
  cases e with
  | goto l => exact h l a w
  | _ => exact id
theorem hops_ret {J : Nat → Act → World → Prop} {a : Act} {w : World} (h : Q .ret a w) : hops J Q .ret a w := h
theorem hops_goto {J : Nat → Act → World → Prop} {l : Nat} {a : Act} {w : World} (h : J l a w) : hops J Q (.goto l) a w := h

/-- Whatever label is jumped to, what holds there leads on, and the measure falls: then the scope ends as Q. -/
theorem wp_scope_hops {c : Code} (J : Nat → Act → World → Prop) (μ : Nat → Act → World → Nat) {a : Act} {w : World}
    (pass : ∀ l a w, J l a w → ∃ rest, findLabel c l = some rest ∧ rest.wp P (hops (fun l' a' w' => J l' a' w' ∧ μ l' a' w' < μ l a w) Q) a w)
    (start : c.wp P (hops J Q) a w) : (Code.scope c).wp P Q a w := by
  intro b k cs
  have onward : ∀ n l rest, findLabel c l = some rest → ∀ a w, μ l a w = n → J l a w → ∃ e a' w', Q e a' w' ∧ Arrives P (lone (b.at a (.code rest :: .inScope c :: k)) cs w) b k cs e a' w' := by
    intro n
    induction n using Nat.strongRecOn with
    | _ n ih =>
      intro l rest hl a w hn hJ
      obtain ⟨rest', hl', hw⟩ := pass l a w hJ
      obtain rfl : rest' = rest := Option.some.inj (hl'.symm.trans hl)
      obtain ⟨e, a1, w1, hq, hr⟩ := hw b (.inScope c :: k) cs
      cases e with
      | normal => exact ⟨.normal, a1, w1, hq, Steps.trans hr (.one step_inScope)⟩
      | exit id => exact ⟨.exit id, a1, w1, hq, fun k' hk => hr k' (by simp [exitTo, hk])⟩
      | goto l2 =>
        have hq' : J l2 a1 w1 ∧ μ l2 a1 w1 < μ l a w := hq
        obtain ⟨rest2, hl2, _⟩ := pass l2 a1 w1 hq'.1
        obtain ⟨e2, a2, w2, hq2, hr2⟩ := ih _ (by omega) l2 rest2 hl2 a1 w1 rfl hq'.1
        exact ⟨e2, a2, w2, hq2, .of_steps (hr _ (by simp [gotoIn, hl2])) hr2⟩
      | ret => exact ⟨_, a1, w1, hq, hr⟩
      | panic ch => exact ⟨_, a1, w1, hq, hr⟩
      | outgrown => exact ⟨_, a1, w1, hq, hr⟩
  obtain ⟨e, a1, w1, hq, hr⟩ := start b (.inScope c :: k) cs
  cases e with
  | normal => exact ⟨.normal, a1, w1, hq, .head step_scope (Steps.trans hr (.one step_inScope))⟩
  | exit id => exact ⟨.exit id, a1, w1, hq, fun k' hk => .head step_scope (hr k' (by simp [exitTo, hk]))⟩
  | goto l =>
    have hq' : J l a1 w1 := hq
    obtain ⟨rest, hl, _⟩ := pass l a1 w1 hq'
    obtain ⟨e2, a2, w2, hq2, hr2⟩ := onward _ l rest hl a1 w1 rfl hq'
    exact ⟨e2, a2, w2, hq2, .of_steps (.head step_scope (hr _ (by simp [gotoIn, hl]))) hr2⟩
  | ret => exact ⟨_, a1, w1, hq, .of_steps (.one step_scope) hr⟩
  | panic ch => exact ⟨_, a1, w1, hq, .of_steps (.one step_scope) hr⟩
  | outgrown => exact ⟨_, a1, w1, hq, .of_steps (.one step_scope) hr⟩
end

/-- In w the slice v, made behind W0, holds these bytes; nothing of W0 has changed. -/
def Own (W0 : World) (v : Value) (out : Bytes) (w : World) : Prop := Lib.OwnBuf W0.heap.size 5 v out.length (Lib.byteCells out) W0 w
theorem Own.none (W0 : World) : Own W0 (.slice Option.none 0 0) [] W0 := ⟨World.ownsRowF_nil _ _ _ _, Below.refl _ _, Nat.le_refl _⟩
theorem Own.below {W0 : World} {v : Value} {out : Bytes} {w : World} (h : Own W0 v out w) : Below W0.heap.size W0 w := h.2.1
theorem Own.keep {W0 : World} {v : Value} {out : Bytes} {w w' : World} (h : Own W0 v out w) (hb : Below w.heap.size w w') : Own W0 v out w' := by
  obtain ⟨h1, h2, h3⟩ := h
  refine ⟨?_, h2.trans (hb.mono h3), Nat.le_trans h3 hb.size⟩
  exact h1.kept (row := Option.none) ⟨hb.os, hb.tape, hb.output, hb.size, fun k hk _ => hb.block k hk⟩ (by cases v.ownBlock <;> simp)
theorem Own.tab {W0 : World} {v : Value} {out : Bytes} {w : World} (h : Own W0 v out w) (hT : Tab W0) : Tab w := hT.keep h.below

theorem app_byte {ops : Array Oper} {rest : List Oper} {o : Oper} {a : Act} {Q : Exit → Act → World → Prop} (hgd : o.guard = Option.none) (s x : Operand)
    (ho : o.op = .call { callee := .builtin .append, args := #[s, x], argTypes := #[34, 34] }) (W0 : World) {w0 : World} {out : Bytes} {v : Value} (hs : a.eval s = v) (c : UInt8) {n : Int} (hn : n = (c.toNat : Int)) (hb : Own W0 v out w0)
    (hx : a.eval x = .slice (some ⟨w0.heap.size, 0, Option.none⟩) 1 1) (hlen : out.length ≤ 1000000000)
    (h : ∀ v' w', Own W0 v' (out ++ [c]) w' → wpList Tryd.prog ops Q rest (a.put o.dst v') w') : wpList Tryd.prog ops Q (o :: rest) a (w0.alloc (.cells #[.int .u8 n] 5)) := by
  subst hn
  obtain ⟨i0, hi, hz0, hz1, hz2⟩ := info_parts Tryd.Builder_Extra_B.infoByte
  refine Lib.wpList_append_byte hgd s x 34 ho W0.heap.size 5 i0 Tryd.underlying34 hi hz0 hz1 hz2 v out.length (Lib.byteCells out) hs W0 w0 (c.toNat : Int) hb hx (by omega) ?_
  intro v' w' ho'
  refine h v' w' ?_
  unfold Own
  rw [Lib.byteCells_append, List.length_append]
  exact ho'
theorem app_text {ops : Array Oper} {rest : List Oper} {o : Oper} {a : Act} {Q : Exit → Act → World → Prop} {w : World} (hgd : o.guard = Option.none) (sl x : Operand)
    (ho : o.op = .call { callee := .builtin .append, args := #[sl, x], argTypes := #[34, 9] }) (W0 : World) {out : Bytes} {v : Value} (hs : a.eval sl = v) (hb : Own W0 v out w) (s : ByteArray) (hx : a.eval x = .string s)
    (hlen : out.length + s.size ≤ 1000000000)
    (h : ∀ v' w', Own W0 v' (out ++ L s) w' → wpList Tryd.prog ops Q rest (a.put o.dst v') w') : wpList Tryd.prog ops Q (o :: rest) a w := by
  obtain ⟨i0, hi, hz0, hz1, hz2⟩ := info_parts Tryd.Builder_Extra_B.infoByte
  refine Lib.wpList_append_text hgd sl x 34 9 ho W0.heap.size 5 i0 Tryd.underlying34 Tryd.underlying9 hi hz0 hz1 hz2 v out.length (Lib.byteCells out) hs W0 hb s hx (by omega) ?_
  intro v' w' ho'
  refine h v' w' ?_
  unfold Own
  rw [Lib.byteCells_append, List.length_append, L_len]
  exact ho'
theorem own_string {W0 : World} {v : Value} {out : Bytes} {w : World} (h : Own W0 v out w) : (convert 34 9 v).run Tryd.prog w = .ok (.string (T out)) w := by
  obtain ⟨h1, _, _⟩ := h
  rcases h1.2 with ⟨rfl, hz⟩ | ⟨g, cap, cur, fz, rfl, _⟩
  · have : out = [] := List.eq_nil_of_length_eq_zero hz
    subst this
    rw [run_convert_bytes_string w 34 9 5 Option.none 0 0 Tryd.underlying34 Tryd.underlying5 Tryd.underlying9]
    rfl
  · refine run_convert_bytes_back w 34 9 5 ⟨g, 0, Option.none⟩ cap out Tryd.underlying34 Tryd.underlying5 Tryd.underlying9 ?_
    intro j hj
    refine h1.cells (g := g) rfl j _ ?_
    simp [Lib.byteCells, hj]
end Go.Proofs.YtlilnljneakngaaDoor
