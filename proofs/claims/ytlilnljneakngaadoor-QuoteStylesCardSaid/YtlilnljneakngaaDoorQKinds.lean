/-
  What the reference's sign and Kinds return: of each byte what it is. Conditions: the text has at most 1000000 bytes.
-/
import Derived.Test.YtlilnljneakngaaDoorQNext
import Derived.Test.YtlilnljneakngaaDoorQStrM
import Derived.Deep.CutRange
set_option linter.unusedVariables false
namespace Go.Proofs.YtlilnljneakngaaDoor
open Go.RowKit

/-- A plain sign? -/
def isSign (r : Int) : Bool := ([95, 64, 37, 43, 61, 58, 44, 46, 47, 45] : List Nat).any (fun n => (n : Int) == r)
def SignRel (r : Int) (S : ByteArray) (v : Value) : Prop := ∃ i : Nat, i ≤ 10 ∧ v = .int .i64 (i : Int) ∧ ∀ j (h : j < S.size), j < i → ((S[j]'h).toNat : Int) ≠ r
theorem isSign_of {S : ByteArray} (hS : ⟨#[95, 64, 37, 43, 61, 58, 44, 46, 47, 45]⟩ = S) {j : Nat} (h : j < S.size) : isSign ((S[j]'h).toNat : Int) = true := by
  subst hS
  have : j < 10 := h
  match j, this with
  | 0, _ => rfl
  | 1, _ => rfl
  | 2, _ => rfl
  | 3, _ => rfl
  | 4, _ => rfl
  | 5, _ => rfl
  | 6, _ => rfl
  | 7, _ => rfl
  | 8, _ => rfl
  | 9, _ => rfl
theorem isSign_no {S : ByteArray} (hS : ⟨#[95, 64, 37, 43, 61, 58, 44, 46, 47, 45]⟩ = S) {r : Int} (h : ∀ j (hj : j < S.size), j < 10 → ((S[j]'hj).toNat : Int) ≠ r) : isSign r = false := by
  subst hS
  have a0 := h 0 (by decide) (by decide)
  have a1 := h 1 (by decide) (by decide)
  have a2 := h 2 (by decide) (by decide)
  have a3 := h 3 (by decide) (by decide)
  have a4 := h 4 (by decide) (by decide)
  have a5 := h 5 (by decide) (by decide)
  have a6 := h 6 (by decide) (by decide)
  have a7 := h 7 (by decide) (by decide)
  have a8 := h 8 (by decide) (by decide)
  have a9 := h 9 (by decide) (by decide)
  unfold isSign
  simp only [List.any_cons, List.any_nil, Bool.or_eq_false_iff, beq_eq_false_iff_ne]
  exact ⟨a0, a1, a2, a3, a4, a5, a6, a7, a8, a9, trivial⟩

set_option maxHeartbeats 1000000 in
set_option maxRecDepth 100000 in
theorem sign_any (r : Int) (w : World) : Calls Tryd.prog 29 #[.int .i64 r] w fun e w' => e = .returned (.bool (isSign r)) ∧ w' = w := by
  go_enter Tryd.func29, Tryd.ntmps29
  go_wp2
  generalize hS : (⟨#[95, 64, 37, 43, 61, 58, 44, 46, 47, 45]⟩ : ByteArray) = S
  have hz : S.size = 10 := by rw [← hS]; rfl
  have HS := Lib.hid hS
  clear hS
  go_loop [4] (SignRel r S) (fun i => 10 - (intOf i).toNat)
  case atStart => exact ⟨0, by omega, rfl, fun j _ h => by omega⟩
  case round =>
    obtain ⟨i, hi, rfl, hno⟩ := hrel
    have HN := Lib.hid hno
    clear hno
    by_cases hlt : i < 10
    · have his : i < S.size := by omega
      obtain ⟨n, hn⟩ : ∃ n, (S[i]'his).toNat = n := ⟨_, rfl⟩
      have HI : Hid (isSign (n : Int) = true) := Lib.hid (by rw [← hn]; exact isSign_of HS.out his)
      have HE := Lib.hid hn
      have hb : n < 256 := by rw [← hn]; exact (S[i]'his).toNat_lt
      by_cases he : (n : Int) = r
      · have hx : ((n : Int) == r) = true := beq_iff_eq.2 he
        have HR : Hid (isSign r = true) := Lib.hid (by rw [← he]; exact HI.out)
        clear he
        go_wp2_with fail
        go_ret
        rw [HR.out]
        exact ⟨rfl, rfl⟩
      · have hx : ((n : Int) == r) = false := beq_eq_false_iff_ne.2 he
        have HN2 : Hid (∀ j (h : j < S.size), j < i + 1 → ((S[j]'h).toNat : Int) ≠ r) := Lib.hid (fun j h hj => by
          by_cases hji : j = i
          · subst hji; rw [HE.out]; exact he
          · exact HN.out j h (by omega))
        clear he
        go_wp2_with fail
        refine ⟨⟨i + 1, by omega, by go_num, HN2.out⟩, ?_⟩
        simp [intOf]
        omega
    · obtain rfl : i = 10 := by omega
      have HR : Hid (isSign r = false) := Lib.hid (isSign_no HS.out HN.out)
      go_wp2_with fail
      go_ret
      rw [HR.out]
      exact ⟨rfl, rfl⟩

/-- What the reference says of a character's bytes. -/
def rk (c : Bytes) : Nat := if kc c = 1 then 2 else if kc c = 0 then 1 else 0
def kindsP (l : Bytes) : List Nat := (chunks l).flatMap (fun c => List.replicate c.length (rk c))
theorem kindsP_nil : kindsP [] = [] := by unfold kindsP; rw [chunks_nil]; rfl
theorem kindsP_step {l : Bytes} (h : l ≠ []) : kindsP l = List.replicate (sz l) (rk (l.take (sz l))) ++ kindsP (l.drop (sz l)) := by
  unfold kindsP
  rw [chunks_step l h, List.flatMap_cons, List.length_take, Nat.min_eq_left (sz_le l h)]
theorem kindsP_len (l : Bytes) : (kindsP l).length = l.length := by
  refine by_drop (P := fun l => (kindsP l).length = l.length) ?_ ?_ l
  · rw [kindsP_nil]; rfl
  · intro l h ih
    have := sz_le l h
    rw [kindsP_step h, List.length_append, List.length_replicate, ih, List.length_drop]
    omega

/-- In w the slice v, made behind W0, holds these numbers; nothing of W0 has changed. -/
def OwnI (W0 : World) (v : Value) (ks : List Nat) (w : World) : Prop :=
  w.ownsRow W0.heap.size 3 1 v ks.length (ks.map fun k : Nat => Value.int .i64 (k : Int)) ∧ Below W0.heap.size W0 w ∧ W0.heap.size ≤ w.heap.size
theorem OwnI.none (W0 : World) : OwnI W0 (.slice Option.none 0 0) [] W0 := ⟨World.ownsRow_nil _ _ _ _, Below.refl _ _, Nat.le_refl _⟩
theorem infoInt : (Tryd.prog.info? 3).map (fun i => (i.zero, i.size, i.bytes)) = some (some (.int .i64 0), 1, 8) := by kernel_rfl
theorem app_int {ops : Array Oper} {rest : List Oper} {o : Oper} {a : Act} {Q : Exit → Act → World → Prop} (hgd : o.guard = Option.none) (s x : Operand)
    (ho : o.op = .call { callee := .builtin .append, args := #[s, x], argTypes := #[29, 29] }) (W0 : World) {w0 : World} {ks : List Nat} {v : Value} (hs : a.eval s = v) (k : Nat) {n : Int} (hn : n = (k : Int)) (hb : OwnI W0 v ks w0)
    (hx : a.eval x = .slice (some ⟨w0.heap.size, 0, Option.none⟩) 1 1) (hlen : ks.length ≤ 1000000000)
    (h : ∀ v' w', OwnI W0 v' (ks ++ [k]) w' → wpList Tryd.prog ops Q rest (a.put o.dst v') w') : wpList Tryd.prog ops Q (o :: rest) a (w0.alloc (.cells #[.int .i64 n] 3)) := by
  subst hn
  obtain ⟨i0, hi, hz0, hz1, hz2⟩ := info_parts infoInt
  obtain ⟨h1, h2, h3⟩ := hb
  have h1' : (w0.alloc (.cells #[.int .i64 (k : Int)] 3)).ownsRow W0.heap.size 3 1 v ks.length (ks.map fun k : Nat => Value.int .i64 (k : Int)) := h1.alloc _
  have hb' : Below W0.heap.size W0 (w0.alloc (.cells #[.int .i64 (k : Int)] 3)) := h2.alloc h3 _
  have hs' : W0.heap.size ≤ (w0.alloc (.cells #[.int .i64 (k : Int)] 3)).heap.size := by simp; omega
  refine wpList_append_own _ hgd s x 29 ho W0.heap.size 3 i0 (.int .i64 0) 1 8 Tryd.underlying29 hi hz0 hz1 hz2 rfl (by decide) v ks.length _ hs h1' ⟨w0.heap.size, 0, Option.none⟩ 1 1 [.int .i64 (k : Int)] hx rfl ?c1 ?c2 (by unfold maxLen; omega) (by omega) hs' ?_
  case c1 =>
    intro j u hj
    match j, hj with
    | 0, hj => simp at hj; subst hj; simp [Addr.add]
    | (j + 1), hj => simp at hj
  case c2 => intro u hu; simp at hu; subst hu; rfl
  intro v' w' ho' hg _
  refine h v' w' ⟨?_, hb'.grown hg hs' (fun g hgv => (h1'.lt g hgv).1), Nat.le_trans hs' hg.size⟩
  rw [List.length_append, List.map_append]
  exact ho'
end Go.Proofs.YtlilnljneakngaaDoor
