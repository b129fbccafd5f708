/-
  Arguments read, by a model: options, operands, what is to blame; that bits are read as a whole. Conditions: each fact's own.
  Arguments read, step by step, by the model: what an argument makes of what is left and what was read; letters, names, a spec that is meant. Conditions: each fact's own.
  Arguments being read, as the reader lies in memory: specs, what is left, options, operands; what a step makes of it. Conditions: each fact's own.
  What Last and Has return. Conditions: at most 100000 options, in memory, their letters bytes.
  What the reader's small steps do: the next argument, an operand, an option, the end of the options. Conditions: at most 100000 arguments, options and operands.
  What a run writes, by a model: rows, messages, operand by operand. Conditions: each fact's own.
-/
import Derived.Lib.RuneCountTail
import Derived.Lib.CutLaws
import Derived.Test.YtknfhphhcnbndaaGreatDoorGPut
import Derived.Test.YtknfhphhcnbndaaGreatDoorShelf
import Derived.Deep.WholeRow
import Derived.Deep.QuietTactic
import Derived.BigQuiet
import Derived.StillTailTactics
set_option linter.unusedVariables false
set_option linter.unusedSimpArgs false
namespace Go.Proofs.YtknfhphhcnbndaaGreatDoor.A
open List renaming setIfInBounds_toArray → lt, set_cons_zero → l0, set_cons_succ → ls

structure Sp where
  letter : Int
  long : ByteArray
  value : Bool
structure Op where
  letter : Int
  value : ByteArray
inductive Rd where
  | bad (a : ByteArray)
  | ok (l : List Op) (rest : List ByteArray)
def noSp : Sp := ⟨0, ByteArray.empty, false⟩
def Rd.opts (o : List Op) : Rd → Rd
  | .bad a => .bad a
  | .ok l r => .ok (o ++ l) r
def Rd.operand (a : ByteArray) : Rd → Rd
  | .bad b => .bad b
  | .ok l r => .ok l (a :: r)

/-! ### texts -/
def listB (s : ByteArray) : List UInt8 := s.data.toList
def byL (l : List UInt8) : ByteArray := ⟨l.toArray⟩
def beginsL (s t : List UInt8) : Bool := t.isPrefixOf s
/-- Up to an equals sign. -/
def nameL (l : List UInt8) : List UInt8 := l.takeWhile fun b => b != 61
def restL (l : List UInt8) : List UInt8 := l.dropWhile fun b => b != 61

/-! ### what is meant -/
/-- The first place from k on at which a test says yes. -/
def findK (p : Sp → Bool) : List Sp → Nat → Option Nat
  | [], _ => none
  | s :: l, k => if p s = true then some k else findK p l (k + 1)
def startsB (name : List UInt8) (s : Sp) : Bool := !(listB s.long).isEmpty && beginsL (listB s.long) name
def wholeB (name : List UInt8) (s : Sp) : Bool := (listB s.long == name) && !name.isEmpty
def meantM (specs : List Sp) (name : List UInt8) : Option Nat :=
  match findK (wholeB name) specs 0 with
  | some k => some k
  | none => if specs.countP (startsB name) = 1 then findK (startsB name) specs 0 else none
def letterM (specs : List Sp) (c : UInt8) : Option Nat := findK (fun s => decide (s.letter = (c.toNat : Int))) specs 0
def spAt (specs : List Sp) (k : Nat) : Sp := specs.getD k noSp

/-! ### letters -/
/-- What letters give: wrong, or options and whether the last one, of a letter, takes the next argument. -/
inductive Lt where
  | bad
  | all (l : List Op)
  | next (l : List Op) (c : Int)
def Lt.more (o : Op) : Lt → Lt
  | .bad => .bad
  | .all l => .all (o :: l)
  | .next l c => .next (o :: l) c
def lettersM (specs : List Sp) : List UInt8 → Lt
  | [] => .all []
  | c :: r => match letterM specs c with
    | none => .bad
    | some k => if (spAt specs k).value = true then (match r with
        | [] => .next [] (c.toNat : Int)
        | _ :: _ => .all [⟨(c.toNat : Int), byL r⟩]) else (lettersM specs r).more ⟨(c.toNat : Int), ByteArray.empty⟩

/-! ### arguments -/
/-- What one argument is. -/
inductive Kd where
  | stop
  | operand
  | bad
  | opts (l : List Op)
  | next (l : List Op) (c : Int)
def longM (specs : List Sp) (l : List UInt8) : Kd :=
  match meantM specs (nameL l) with
  | none => .bad
  | some k => match restL l with
    | [] => if (spAt specs k).value = true then .next [] (spAt specs k).letter else .opts [⟨(spAt specs k).letter, ByteArray.empty⟩]
    | _ :: v => if (spAt specs k).value = true then .opts [⟨(spAt specs k).letter, byL v⟩] else .bad
def kindL (specs : List Sp) (l : List UInt8) : Kd :=
  match l with
  | [] => .operand
  | [_] => .operand
  | b :: c :: r => if b ≠ 45 then .operand else if c = 45 then (if r = [] then .stop else longM specs r) else (match lettersM specs (c :: r) with
    | .bad => .bad
    | .all l => .opts l
    | .next l c => .next l c)
def kindA (specs : List Sp) (a : ByteArray) : Kd := kindL specs (listB a)
def readM (specs : List Sp) : List ByteArray → Rd
  | [] => .ok [] []
  | [a] => match kindA specs a with
    | .stop => .ok [] []
    | .operand => .ok [] [a]
    | .bad => .bad a
    | .opts l => .ok l []
    | .next _ _ => .bad a
  | a :: b :: r => match kindA specs a with
    | .stop => .ok [] (b :: r)
    | .operand => (readM specs (b :: r)).operand a
    | .bad => .bad a
    | .opts l => (readM specs (b :: r)).opts l
    | .next l c => (readM specs r).opts (l ++ [⟨c, b⟩])
theorem read_cons (specs : List Sp) (a : ByteArray) (r : List ByteArray) : readM specs (a :: r) = match kindA specs a with
    | .stop => .ok [] r
    | .operand => (readM specs r).operand a
    | .bad => .bad a
    | .opts l => (readM specs r).opts l
    | .next l c => match r with
      | [] => .bad a
      | b :: r' => (readM specs r').opts (l ++ [⟨c, b⟩]) := by
  cases r with
  | nil =>
    unfold readM
    cases kindA specs a <;> simp [Rd.operand, Rd.opts]
  | cons b r =>
    rw [readM]
/-! ### bits -/
/-! ### the last one of some letters -/
end Go.Proofs.YtknfhphhcnbndaaGreatDoor.A

namespace Go.Proofs.YtknfhphhcnbndaaGreatDoor.A
open List renaming setIfInBounds_toArray → lt, set_cons_zero → l0, set_cons_succ → ls

/-! ### a reading under way -/
def finL (O : List Op) (P : List ByteArray) : Rd → Rd
  | .bad a => .bad a
  | .ok l r => .ok (O ++ l) (P ++ r)
theorem fin_nil (x : Rd) : finL [] [] x = x := by cases x <;> rfl
theorem fin_opts (O : List Op) (P : List ByteArray) (o : List Op) (x : Rd) : finL O P (x.opts o) = finL (O ++ o) P x := by
  cases x <;> simp [Rd.opts, finL]
theorem fin_operand (O : List Op) (P : List ByteArray) (a : ByteArray) (x : Rd) : finL O P (x.operand a) = finL O (P ++ [a]) x := by
  cases x <;> simp [Rd.operand, finL]
/-- What an argument makes of the options, the operands and what is left; none: it is to blame. -/
def stepM (k : Kd) (a : ByteArray) (O : List Op) (P L : List ByteArray) : Option (List Op × List ByteArray × List ByteArray) := match k with
  | .stop => some (O, P ++ L, [])
  | .operand => some (O, P ++ [a], L)
  | .bad => none
  | .opts l => some (O ++ l, P, L)
  | .next l c => match L with
    | [] => none
    | b :: r => some (O ++ (l ++ [⟨c, b⟩]), P, r)
theorem read_step (specs : List Sp) (a : ByteArray) (O : List Op) (P L : List ByteArray) : finL O P (readM specs (a :: L)) = match stepM (kindA specs a) a O P L with
    | none => .bad a
    | some s => finL s.1 s.2.1 (readM specs s.2.2) := by
  rw [read_cons]
  unfold stepM
  cases kindA specs a with
  | stop => simp [finL, readM]
  | operand => exact fin_operand _ _ _ _
  | bad => rfl
  | opts l => exact fin_opts _ _ _ _
  | next l c =>
    cases L with
    | nil => rfl
    | cons b r => exact fin_opts _ _ _ _
theorem read_bad {specs : List Sp} {a : ByteArray} {O : List Op} {P L : List ByteArray} (h : stepM (kindA specs a) a O P L = none) : finL O P (readM specs (a :: L)) = .bad a := by rw [read_step, h]
theorem read_on {specs : List Sp} {a : ByteArray} {O O' : List Op} {P P' L L' : List ByteArray} (h : stepM (kindA specs a) a O P L = some (O', P', L')) : finL O P (readM specs (a :: L)) = finL O' P' (readM specs L') := by rw [read_step, h]
theorem read_end (specs : List Sp) (O : List Op) (P : List ByteArray) : finL O P (readM specs []) = .ok O P := by rw [readM, finL, List.append_nil, List.append_nil]
theorem step_left {k : Kd} {a : ByteArray} {O O' : List Op} {P P' L L' : List ByteArray} (h : stepM k a O P L = some (O', P', L')) : L'.length ≤ L.length ∧ P'.length + L'.length ≤ P.length + L.length + 1 := by
  unfold stepM at h
  split at h
  · simp only [Option.some.injEq, Prod.mk.injEq] at h
    obtain ⟨rfl, rfl, rfl⟩ := h
    exact ⟨by simp, by simp⟩
  · simp only [Option.some.injEq, Prod.mk.injEq] at h
    obtain ⟨rfl, rfl, rfl⟩ := h
    exact ⟨by simp, by simp; omega⟩
  · cases h
  · simp only [Option.some.injEq, Prod.mk.injEq] at h
    obtain ⟨rfl, rfl, rfl⟩ := h
    exact ⟨by simp, by simp⟩
  · split at h
    · cases h
    · simp only [Option.some.injEq, Prod.mk.injEq] at h
      obtain ⟨rfl, rfl, rfl⟩ := h
      exact ⟨by simp, by simp; omega⟩

theorem step_sub {k : Kd} {a : ByteArray} {O O' : List Op} {P P' L L' : List ByteArray} (h : stepM k a O P L = some (O', P', L')) : ∀ y ∈ L', y ∈ L := by
  unfold stepM at h
  split at h
  · simp only [Option.some.injEq, Prod.mk.injEq] at h
    obtain ⟨rfl, rfl, rfl⟩ := h
    intro y hy
    cases hy
  · simp only [Option.some.injEq, Prod.mk.injEq] at h
    obtain ⟨rfl, rfl, rfl⟩ := h
    exact fun y hy => hy
  · cases h
  · simp only [Option.some.injEq, Prod.mk.injEq] at h
    obtain ⟨rfl, rfl, rfl⟩ := h
    exact fun y hy => hy
  · split at h
    · cases h
    · simp only [Option.some.injEq, Prod.mk.injEq] at h
      obtain ⟨rfl, rfl, rfl⟩ := h
      exact fun y hy => List.mem_cons_of_mem _ hy

/-! ### letters -/
def Lt.mores (O : List Op) : Lt → Lt
  | .bad => .bad
  | .all l => .all (O ++ l)
  | .next l c => .next (O ++ l) c
theorem mores_nil (x : Lt) : x.mores [] = x := by cases x <;> rfl
theorem mores_more (O : List Op) (o : Op) (x : Lt) : (x.more o).mores O = x.mores (O ++ [o]) := by
  cases x <;> simp [Lt.more, Lt.mores]
theorem letters_nil (specs : List Sp) : lettersM specs [] = .all [] := rfl
theorem letters_cons (specs : List Sp) (c : UInt8) (r : List UInt8) : lettersM specs (c :: r) = match letterM specs c with
    | none => .bad
    | some k => if (spAt specs k).value = true then (match r with
        | [] => .next [] (c.toNat : Int)
        | _ :: _ => .all [⟨(c.toNat : Int), byL r⟩]) else (lettersM specs r).more ⟨(c.toNat : Int), ByteArray.empty⟩ := rfl
theorem letters_bad {specs : List Sp} {c : UInt8} {r : List UInt8} (h : letterM specs c = none) : lettersM specs (c :: r) = .bad := by rw [letters_cons, h]
theorem letters_more {specs : List Sp} {c : UInt8} {r : List UInt8} {k : Nat} (h : letterM specs c = some k) (hv : (spAt specs k).value = false) : lettersM specs (c :: r) = (lettersM specs r).more ⟨(c.toNat : Int), ByteArray.empty⟩ := by
  rw [letters_cons, h]
  dsimp only
  rw [if_neg (by rw [hv]; simp)]
theorem letters_next {specs : List Sp} {c : UInt8} {k : Nat} (h : letterM specs c = some k) (hv : (spAt specs k).value = true) : lettersM specs [c] = .next [] (c.toNat : Int) := by
  rw [letters_cons, h]
  dsimp only
  rw [if_pos hv]
theorem letters_last {specs : List Sp} {c : UInt8} {r : List UInt8} {k : Nat} (h : letterM specs c = some k) (hv : (spAt specs k).value = true) (hr : r ≠ []) : lettersM specs (c :: r) = .all [⟨(c.toNat : Int), byL r⟩] := by
  rw [letters_cons, h]
  dsimp only
  rw [if_pos hv]
  cases r with
  | nil => exact absurd rfl hr
  | cons d r => rfl
/-- What letters make of an argument. -/
def ltK : Lt → Kd
  | .bad => .bad
  | .all l => .opts l
  | .next l c => .next l c

/-! ### what an argument is, by its bytes -/
theorem kind_letters {specs : List Sp} {c : UInt8} {r : List UInt8} (hc : c ≠ 45) : kindL specs (45 :: c :: r) = ltK (lettersM specs (c :: r)) := by
  unfold kindL
  dsimp only
  rw [if_neg (by simp), if_neg hc]
  cases lettersM specs (c :: r) <;> rfl
theorem kind_long {specs : List Sp} {r : List UInt8} (hr : r ≠ []) : kindL specs (45 :: 45 :: r) = longM specs r := by
  unfold kindL
  dsimp only
  rw [if_neg (by simp), if_pos rfl, if_neg hr]
/-! ### places -/
theorem find_ge {p : Sp → Bool} : ∀ {l : List Sp} {k j : Nat}, findK p l k = some j → k ≤ j ∧ j < k + l.length
  | [], k, j, h => by cases h
  | s :: l, k, j, h => by
    unfold findK at h
    split at h
    · obtain rfl := Option.some.inj h
      simp
    · have := find_ge h
      simp
      omega
theorem find_none {p : Sp → Bool} : ∀ {l : List Sp} {k : Nat}, (∀ s ∈ l, p s = false) → findK p l k = none
  | [], k, h => rfl
  | s :: l, k, h => by
    unfold findK
    rw [if_neg (by rw [h s List.mem_cons_self]; simp)]
    exact find_none fun x hx => h x (List.mem_cons_of_mem _ hx)
theorem find_skip {p : Sp → Bool} : ∀ {a b : List Sp} {k : Nat}, (∀ s ∈ a, p s = false) → findK p (a ++ b) k = findK p b (k + a.length)
  | [], b, k, h => rfl
  | s :: a, b, k, h => by
    rw [List.cons_append, findK, if_neg (by rw [h s List.mem_cons_self]; simp), find_skip fun x hx => h x (List.mem_cons_of_mem _ hx), List.length_cons, show k + 1 + a.length = k + (a.length + 1) by omega]
theorem find_hit {p : Sp → Bool} {l : List Sp} {i : Nat} {s : Sp} (hs : l[i]? = some s) (hp : p s = true) (hno : ∀ (j : Nat) (x : Sp), j < i → l[j]? = some x → p x = false) : findK p l 0 = some i := by
  obtain ⟨hi, he⟩ := List.getElem?_eq_some_iff.1 hs
  have e : l = l.take i ++ (s :: l.drop (i + 1)) := by
    rw [← he]
    simp
  rw [e, find_skip (fun x hx => ?_), findK, if_pos hp, List.length_take, Nat.min_eq_left (by omega), Nat.zero_add]
  obtain ⟨j, hj⟩ := List.mem_iff_getElem?.1 hx
  have hji : j < i := by
    have := (List.getElem?_eq_some_iff.1 hj).1
    simp at this
    omega
  rw [List.getElem?_take_of_lt hji] at hj
  exact hno j x hji hj
theorem find_miss {p : Sp → Bool} {l : List Sp} (hno : ∀ (j : Nat) (x : Sp), j < l.length → l[j]? = some x → p x = false) : findK p l 0 = none :=
  find_none fun x hx => by
    obtain ⟨j, hj⟩ := List.mem_iff_getElem?.1 hx
    exact hno j x (List.getElem?_eq_some_iff.1 hj).1 hj
theorem spAt_of {specs : List Sp} {k : Nat} {s : Sp} (h : specs[k]? = some s) : spAt specs k = s := by
  unfold spAt
  rw [List.getD_eq_getElem?_getD, h]
  rfl

/-! ### the name that is meant -/
theorem meant_whole {specs : List Sp} {name : List UInt8} {i : Nat} {s : Sp} (hs : specs[i]? = some s) (hp : wholeB name s = true) (hno : ∀ (j : Nat) (x : Sp), j < i → specs[j]? = some x → wholeB name x = false) : meantM specs name = some i := by
  unfold meantM
  rw [find_hit hs hp hno]
theorem meant_one {specs : List Sp} {name : List UInt8} (hno : ∀ (j : Nat) (x : Sp), j < specs.length → specs[j]? = some x → wholeB name x = false) (h1 : specs.countP (startsB name) = 1) : meantM specs name = findK (startsB name) specs 0 := by
  unfold meantM
  rw [find_miss hno]
  dsimp only
  rw [if_pos h1]
theorem meant_none {specs : List Sp} {name : List UInt8} (hno : ∀ (j : Nat) (x : Sp), j < specs.length → specs[j]? = some x → wholeB name x = false) (h1 : specs.countP (startsB name) ≠ 1) : meantM specs name = none := by
  unfold meantM
  rw [find_miss hno]
  dsimp only
  rw [if_neg h1]
/-- How many of the first i begin so, and the last of these. -/
def cntK (p : Sp → Bool) (l : List Sp) (i : Nat) : Nat := (l.take i).countP p
def lastK (p : Sp → Bool) (l : List Sp) (i : Nat) : Sp := ((l.take i).filter p).getLastD noSp
theorem take_one {l : List Sp} {i : Nat} {s : Sp} (h : l[i]? = some s) : l.take (i + 1) = l.take i ++ [s] := by
  rw [List.take_add_one, h]
  rfl
theorem cnt_yes {p : Sp → Bool} {l : List Sp} {i : Nat} {s : Sp} (h : l[i]? = some s) (hp : p s = true) : cntK p l (i + 1) = cntK p l i + 1 := by
  unfold cntK
  rw [take_one h, List.countP_append]
  simp [hp]
theorem cnt_no {p : Sp → Bool} {l : List Sp} {i : Nat} {s : Sp} (h : l[i]? = some s) (hp : p s = false) : cntK p l (i + 1) = cntK p l i := by
  unfold cntK
  rw [take_one h, List.countP_append]
  simp [hp]
theorem last_yes {p : Sp → Bool} {l : List Sp} {i : Nat} {s : Sp} (h : l[i]? = some s) (hp : p s = true) : lastK p l (i + 1) = s := by
  unfold lastK
  rw [take_one h, List.filter_append]
  simp [hp]
theorem last_no {p : Sp → Bool} {l : List Sp} {i : Nat} {s : Sp} (h : l[i]? = some s) (hp : p s = false) : lastK p l (i + 1) = lastK p l i := by
  unfold lastK
  rw [take_one h, List.filter_append]
  simp [hp]
theorem cnt_le (p : Sp → Bool) (l : List Sp) (i : Nat) : cntK p l i ≤ l.length := by
  unfold cntK
  exact Nat.le_trans List.countP_le_length (by rw [List.length_take]; omega)
/-- The one that begins so is found by its place. -/
theorem find_one {p : Sp → Bool} : ∀ {l : List Sp} {k : Nat}, l.countP p = 1 → ∃ j s, findK p l k = some j ∧ k ≤ j ∧ l[j - k]? = some s ∧ l.filter p = [s]
  | [], k, h => by simp at h
  | x :: l, k, h => by
    unfold findK
    by_cases hx : p x = true
    · rw [if_pos hx]
      refine ⟨k, x, rfl, Nat.le_refl _, by simp, ?_⟩
      rw [List.countP_cons_of_pos hx] at h
      rw [List.filter_cons_of_pos hx, List.filter_eq_nil_iff.2 (List.countP_eq_zero.1 (by omega))]
    · rw [if_neg hx]
      rw [List.countP_cons_of_neg hx] at h
      obtain ⟨j, s, h1, h2, h3, h4⟩ := find_one (k := k + 1) h
      refine ⟨j, s, h1, by omega, ?_, by rw [List.filter_cons_of_neg hx]; exact h4⟩
      rw [show j - k = (j - (k + 1)) + 1 by omega, List.getElem?_cons_succ]
      exact h3
theorem last_one {p : Sp → Bool} {l : List Sp} (h : cntK p l l.length = 1) : ∃ j, findK p l 0 = some j ∧ spAt l j = lastK p l l.length := by
  unfold cntK at h
  rw [List.take_length] at h
  obtain ⟨j, s, h1, _, h3, h4⟩ := find_one (k := 0) h
  refine ⟨j, h1, ?_⟩
  rw [Nat.sub_zero] at h3
  rw [spAt_of h3]
  unfold lastK
  rw [List.take_length, h4]
  rfl
/-! ### a name, and what stands behind a sign -/
theorem take_drop_sign (l : List UInt8) : nameL l ++ restL l = l := List.takeWhile_append_dropWhile
/-- How many bytes stand ahead of the sign. -/
def eqAt (l : List UInt8) : Nat := (nameL l).length
theorem name_take (l : List UInt8) : nameL l = l.take (eqAt l) := by
  have := congrArg (List.take (nameL l).length) (take_drop_sign l)
  rw [List.take_left] at this
  exact this
theorem rest_drop (l : List UInt8) : restL l = l.drop (eqAt l) := by
  have := congrArg (List.drop (nameL l).length) (take_drop_sign l)
  rw [List.drop_left] at this
  exact this
theorem eqAt_le (l : List UInt8) : eqAt l ≤ l.length := by
  have := congrArg List.length (take_drop_sign l)
  rw [List.length_append] at this
  unfold eqAt
  omega
theorem eqAt_no {l : List UInt8} {i : Nat} (h : i < eqAt l) : ∃ b, l[i]? = some b ∧ b ≠ 61 := by
  have hi : i < (nameL l).length := h
  refine ⟨(nameL l)[i], ?_, ?_⟩
  · have := eqAt_le l
    rw [List.getElem?_eq_getElem (by omega), Option.some.injEq]
    have e : l[i]? = (nameL l)[i]? := by
      conv => lhs; rw [← take_drop_sign l]
      rw [List.getElem?_append_left hi]
    rw [List.getElem?_eq_getElem (by omega), List.getElem?_eq_getElem hi] at e
    exact Option.some.inj e
  · have := List.all_takeWhile (p := fun b : UInt8 => b != 61) (l := l)
    have hm : (nameL l)[i] ∈ l.takeWhile fun b => b != 61 := List.getElem_mem hi
    have := List.all_eq_true.1 this _ hm
    simpa using this
theorem eqAt_yes {l : List UInt8} (h : eqAt l < l.length) : l[eqAt l]? = some 61 := by
  have h1 : restL l ≠ [] := by
    rw [rest_drop]
    intro e
    have := List.drop_eq_nil_iff.1 e
    omega
  have h2 : (restL l).head? = some 61 := by
    unfold restL
    have := List.head?_dropWhile_not (fun b : UInt8 => b != 61) l
    unfold restL at h1
    cases hd : l.dropWhile (fun b => b != 61) with
    | nil => exact absurd hd h1
    | cons b r =>
      rw [hd] at this
      simp at this
      rw [this]
      rfl
  rw [rest_drop, List.head?_drop] at h2
  exact h2
theorem rest_nil {l : List UInt8} (h : eqAt l = l.length) : restL l = [] := by rw [rest_drop, h, List.drop_length]
theorem rest_cons {l : List UInt8} (h : eqAt l < l.length) : restL l = 61 :: l.drop (eqAt l + 1) := by
  rw [rest_drop, List.drop_eq_getElem_cons h]
  have := eqAt_yes h
  rw [List.getElem?_eq_getElem h] at this
  rw [Option.some.inj this]
theorem long_bad {specs : List Sp} {l : List UInt8} (h : meantM specs (nameL l) = none) : longM specs l = .bad := by
  unfold longM
  rw [h]
theorem long_next {specs : List Sp} {l : List UInt8} {k : Nat} (h : meantM specs (nameL l) = some k) (he : eqAt l = l.length) (hv : (spAt specs k).value = true) : longM specs l = .next [] (spAt specs k).letter := by
  unfold longM
  rw [h, rest_nil he]
  dsimp only
  rw [if_pos hv]
theorem long_plain {specs : List Sp} {l : List UInt8} {k : Nat} (h : meantM specs (nameL l) = some k) (he : eqAt l = l.length) (hv : (spAt specs k).value = false) : longM specs l = .opts [⟨(spAt specs k).letter, ByteArray.empty⟩] := by
  unfold longM
  rw [h, rest_nil he]
  dsimp only
  rw [if_neg (by rw [hv]; simp)]
theorem long_given {specs : List Sp} {l : List UInt8} {k : Nat} (h : meantM specs (nameL l) = some k) (he : eqAt l < l.length) (hv : (spAt specs k).value = true) : longM specs l = .opts [⟨(spAt specs k).letter, byL (l.drop (eqAt l + 1))⟩] := by
  unfold longM
  rw [h, rest_cons he]
  dsimp only
  rw [if_pos hv]
theorem long_much {specs : List Sp} {l : List UInt8} {k : Nat} (h : meantM specs (nameL l) = some k) (he : eqAt l < l.length) (hv : (spAt specs k).value = false) : longM specs l = .bad := by
  unfold longM
  rw [h, rest_cons he]
  dsimp only
  rw [if_neg (by rw [hv]; simp)]

/-! ### how many options an argument gives -/
theorem letters_len (specs : List Sp) : ∀ (l : List UInt8), match lettersM specs l with
    | .bad => True
    | .all x => x.length ≤ l.length
    | .next x _ => x.length + 1 ≤ l.length
  | [] => Nat.le_refl _
  | c :: r => by
    have ih := letters_len specs r
    rw [letters_cons]
    cases letterM specs c with
    | none => trivial
    | some k =>
      dsimp only
      by_cases hv : (spAt specs k).value = true
      · rw [if_pos hv]
        cases r with
        | nil => simp
        | cons d r => simp
      · rw [if_neg hv]
        cases hl : lettersM specs r with
        | bad => trivial
        | all x => rw [hl] at ih; simp [Lt.more]; exact ih
        | next x d => rw [hl] at ih; simp [Lt.more]; exact ih
def kdLen : Kd → Nat
  | .opts l => l.length
  | .next l _ => l.length
  | _ => 0
theorem long_len (specs : List Sp) (l : List UInt8) : kdLen (longM specs l) ≤ 1 := by
  unfold longM
  cases meantM specs (nameL l) with
  | none => exact Nat.zero_le _
  | some k =>
    dsimp only
    cases restL l with
    | nil => dsimp only; by_cases h : (spAt specs k).value = true <;> simp [h, kdLen]
    | cons d v => dsimp only; by_cases h : (spAt specs k).value = true <;> simp [h, kdLen]
theorem kind_len (specs : List Sp) : ∀ l, kdLen (kindL specs l) ≤ l.length
  | [] => Nat.le_refl _
  | [b] => Nat.zero_le _
  | b :: c :: r => by
    unfold kindL
    dsimp only
    by_cases h1 : b ≠ 45
    · rw [if_pos h1]; exact Nat.zero_le _
    · rw [if_neg h1]
      by_cases h2 : c = 45
      · rw [if_pos h2]
        by_cases h3 : r = []
        · rw [if_pos h3]; exact Nat.zero_le _
        · rw [if_neg h3]
          have := long_len specs r
          simp
          omega
      · rw [if_neg h2]
        have := letters_len specs (c :: r)
        cases hl : lettersM specs (c :: r) with
        | bad => exact Nat.zero_le _
        | all x => rw [hl] at this; simp [kdLen] at this ⊢; omega
        | next x d => rw [hl] at this; simp [kdLen] at this ⊢; omega
theorem step_opts {specs : List Sp} {a : ByteArray} {O O' : List Op} {P P' L L' : List ByteArray} (h : stepM (kindA specs a) a O P L = some (O', P', L')) : O'.length ≤ O.length + (listB a).length + 1 := by
  have hk : kdLen (kindA specs a) ≤ (listB a).length := kind_len specs _
  unfold stepM at h
  split at h
  · simp only [Option.some.injEq, Prod.mk.injEq] at h
    obtain ⟨rfl, rfl, rfl⟩ := h
    omega
  · simp only [Option.some.injEq, Prod.mk.injEq] at h
    obtain ⟨rfl, rfl, rfl⟩ := h
    omega
  · cases h
  · rename_i l e
    rw [e] at hk
    simp only [Option.some.injEq, Prod.mk.injEq] at h
    obtain ⟨rfl, rfl, rfl⟩ := h
    rw [List.length_append]
    simp only [kdLen] at hk
    omega
  · rename_i l c e
    rw [e] at hk
    simp only [kdLen] at hk
    split at h
    · cases h
    · simp only [Option.some.injEq, Prod.mk.injEq] at h
      obtain ⟨rfl, rfl, rfl⟩ := h
      simp
      omega

/-! ### Cut -/
theorem occ_sign (l : List UInt8) (i : Nat) : Lib.occAt l [61] i = (l[i]? == some 61) := by
  unfold Lib.occAt
  by_cases h : i < l.length
  · rw [List.drop_eq_getElem_cons h, List.getElem?_eq_getElem h]
    simp [List.isPrefixOf]
    rw [Bool.eq_iff_iff, beq_iff_eq, beq_iff_eq]
    exact ⟨fun z => z.symm, fun z => z.symm⟩
  · rw [List.drop_eq_nil_of_le (by omega), List.getElem?_eq_none (by omega)]
    rfl
theorem cut_yes {l : List UInt8} (h : eqAt l < l.length) : Lib.cut l [61] = (nameL l, l.drop (eqAt l + 1), true) := by
  have e : Lib.index l [61] = (eqAt l : Int) := Lib.index_first (by omega) (by rw [occ_sign, eqAt_yes h]; rfl) (fun j hj => by
    rw [occ_sign]
    obtain ⟨b, hb, hne⟩ := eqAt_no hj
    rw [hb]
    exact beq_eq_false_iff_ne.2 fun z => hne (Option.some.inj z))
  unfold Lib.cut
  rw [e, if_pos (by omega), Int.toNat_natCast, ← name_take]
  rfl
theorem cut_no {l : List UInt8} (h : eqAt l = l.length) : Lib.cut l [61] = (l, [], false) := by
  have e : Lib.index l [61] = -1 := Lib.index_none (fun j hj => by
    rw [occ_sign]
    by_cases q : j < l.length
    · obtain ⟨b, hb, hne⟩ := eqAt_no (l := l) (i := j) (by omega)
      rw [hb]
      exact beq_eq_false_iff_ne.2 fun z => hne (Option.some.inj z)
    · rw [List.getElem?_eq_none (by omega)]
      rfl)
  unfold Lib.cut
  rw [e, if_neg (by omega)]
theorem name_all {l : List UInt8} (h : eqAt l = l.length) : nameL l = l := by rw [name_take, h, List.take_length]

/-! ### letters, by their places -/
theorem letter_is {specs : List Sp} {c : UInt8} {k : Nat} (h : letterM specs c = some k) : (spAt specs k).letter = (c.toNat : Int) := by
  unfold letterM at h
  have : ∀ (l : List Sp) (i k : Nat), findK (fun s => decide (s.letter = (c.toNat : Int))) l i = some k → (l.getD (k - i) noSp).letter = (c.toNat : Int) := by
    intro l
    induction l with
    | nil => intro i k h; cases h
    | cons s l ih =>
      intro i k h
      have hge := (find_ge h).1
      unfold findK at h
      split at h
      · rename_i hp
        obtain rfl := Option.some.inj h
        rw [Nat.sub_self]
        exact of_decide_eq_true hp
      · have := ih (i + 1) k h
        have h2 := (find_ge h).1
        rw [show k - i = (k - (i + 1)) + 1 by omega]
        simpa using this
  have := this specs 0 k h
  rwa [Nat.sub_zero] at this
theorem ext_list (s : ByteArray) (i : Nat) : listB (s.extract i s.size) = (listB s).drop i := by
  unfold listB
  rw [Lib.extract_eq]
  exact List.take_of_length_le (by rw [List.length_drop]; simp)
theorem ext_byL {s : ByteArray} {l : List UInt8} {i : Nat} (h : listB s = l) : s.extract i s.size = byL (l.drop i) := by
  have := ext_list s i
  rw [h] at this
  apply ByteArray.ext
  apply Array.toList_inj.1
  exact this
theorem drop_at {l : List UInt8} {i : Nat} (h : i < l.length) : l.drop i = l[i] :: l.drop (i + 1) := List.drop_eq_getElem_cons h
end Go.Proofs.YtknfhphhcnbndaaGreatDoor.A

namespace Go.Proofs.YtknfhphhcnbndaaGreatDoor.A
open List renaming setIfInBounds_toArray → lt, set_cons_zero → l0, set_cons_succ → ls
open Go.Proofs.YtknfhphhcnbndaaGreatDoor.B
open Go.RowKit

/-! ### texts, as a walk compares them -/
theorem txt_emp {s : ByteArray} (h : s.size = 0) : s.data = #[] ∧ s.toList = [] ∧ s.toList.isEmpty = true ∧ listB s = [] := by
  have h1 : s.data = #[] := Array.eq_empty_of_size_eq_zero h
  have h2 : s.toList = [] := by rw [Lib.toList_data, h1]
  exact ⟨h1, h2, by rw [h2]; rfl, by unfold listB; rw [h1]⟩
theorem txt_non {s : ByteArray} (h : 0 < s.size) : s.data ≠ #[] ∧ (s.toList == []) = false ∧ s.toList ≠ [] ∧ s.toList.isEmpty = false ∧ listB s ≠ [] := by
  have h1 : s.data.toList ≠ [] := fun z => by rw [← size_list, z] at h; exact absurd h (by decide)
  have h2 : s.toList ≠ [] := fun z => by
    rw [Lib.toList_data] at z
    exact h1 z
  exact ⟨fun z => h1 (by rw [z]), beq_eq_false_iff_ne.2 h2, h2, by rw [List.isEmpty_eq_false_iff]; exact h2, h1⟩
theorem txt_eq {a b : ByteArray} (h : a = b) : (a.toList == b.toList) = true := by rw [h]; exact beq_self_eq_true _
theorem txt_ne {a b : ByteArray} (h : a ≠ b) : a.data ≠ b.data ∧ (a.toList == b.toList) = false ∧ a.toList ≠ b.toList := by
  have h2 : a.toList ≠ b.toList := fun z => by
    rw [Lib.toList_data, Lib.toList_data] at z
    exact h (ByteArray.ext (Array.toList_inj.1 z))
  exact ⟨fun z => h (ByteArray.ext z), beq_eq_false_iff_ne.2 h2, h2⟩
theorem listB_inj {a b : ByteArray} (h : listB a = listB b) : a = b := ByteArray.ext (Array.toList_inj.1 h)
theorem listB_len (s : ByteArray) : (listB s).length = s.size := size_list s
theorem listB_byL (l : List UInt8) : listB (byL l) = l := rfl

/-! ### a spec, an option, cell by cell -/
def spC (s : Sp) : List Value := [.int .u8 s.letter, .string s.long, .bool s.value]
def spV (s : Sp) : Value := .agg #[.int .u8 s.letter, .string s.long, .bool s.value]
theorem spC_len (s : Sp) : (spC s).length = 3 := rfl
def opC (o : Op) : List Value := [.int .u8 o.letter, .string o.value]
theorem opC_len (o : Op) : (opC o).length = 2 := rfl
theorem opC_one (o : Op) : ∀ u ∈ opC o, u.oneCell' = true := by
  intro u hu
  simp only [opC, List.mem_cons, List.not_mem_nil, or_false] at hu
  rcases hu with rfl | rfl <;> rfl
/-- The slice at a holds these specs. -/
abbrev SpsL (w : World) (a : Option Addr) (l : List Sp) : Prop := RowL 3 spC w a l
theorem sps_at {w : World} {a : Option Addr} {l : List Sp} (h : SpsL w a l) {i : Nat} {s : Sp} (hs : l[i]? = some s) : ∃ g o, a = some ⟨g, o, none⟩ ∧ g < w.heap.size ∧ w.cell? ⟨g, o + i * 3, none⟩ = some (.int .u8 s.letter) ∧ w.cell? ⟨g, o + i * 3 + 1, none⟩ = some (.string s.long) ∧ w.cell? ⟨g, o + i * 3 + 2, none⟩ = some (.bool s.value) := by
  obtain ⟨g, o, h1, h0, h2⟩ := h.at_ hs
  exact ⟨g, o, h1, h0, h2 0 _ rfl, h2 1 _ rfl, h2 2 _ rfl⟩
theorem infoTxt : (Tryz.prog.info? 9).map (fun i => (i.zero, i.size, i.bytes)) = some (some (.string ⟨#[]⟩), 1, 16) := by kernel_rfl
theorem infoOp : (Tryz.prog.info? 256).map (fun i => (i.zero, i.size, i.bytes)) = some (some (.agg #[.int .u8 0, .string ⟨#[]⟩]), 2, 24) := by kernel_rfl
theorem info_parts {P : Program} {t : TypeId} {z : Value} {n b : Nat} (h : (P.info? t).map (fun i => (i.zero, i.size, i.bytes)) = some (some z, n, b)) : ∃ i, P.info? t = some i ∧ i.zero = some z ∧ i.size = n ∧ i.bytes = b := by
  obtain ⟨i, hi, e⟩ := Option.map_eq_some_iff.1 h
  simp only [Prod.mk.injEq] at e
  exact ⟨i, hi, e.1, e.2.1, e.2.2⟩

theorem sizeSp : (Tryz.prog.info? 254).map (·.size) = some 3 := by kernel_rfl
/-- A result that lies in a cell, and one beside it. -/
theorem results_pair {P : Program} {fn : Func} {p q : Tmp} {ty : TypeId} (h : fn.results = #[.cell p ty, .tmp q]) (tmps : Array Value) (w : World) (g : Nat) (t : TypeId) (cs : Array Value) (fr : Nat × Nat) (d : TypeDesc) (v : Value)
    (hp : tmps.getD p undef = .pointer (some ⟨g, 0, none⟩)) (hq : tmps.getD q undef = v) (hg : w.heap[g]? = some (.cells cs t fr))
    (hu : P.underlying ty = some d) (hd : (match d with | .struct _ | .array _ _ => true | _ => false) = true) (hi : (P.info? ty).map (·.size) = some cs.size) :
    (results fn tmps).run P w = .ok (.tuple #[.agg cs, v]) w := by
  have hp' : tmps[p]?.getD undef = .pointer (some ⟨g, 0, none⟩) := by simpa using hp
  have hq' : tmps[q]?.getD undef = v := by simpa using hq
  simp [results, h, hp', hq', asAddr, run_loadVar_row w g t ty cs fr d hg hu hd hi, Result.andThen]
def noSpC : Array Value := #[.int .u8 0, .string ⟨#[]⟩, .bool false]
theorem below_setRow {B g : Nat} {a w : World} (h : Below B a w) (hg : B ≤ g) (cs : Array Value) : Below B a (w.setRow g cs) :=
  ⟨h.os, h.tape, h.output, by have := h.size; simp [World.setRow]; omega, fun k hk => by rw [setRow_other _ _ _ _ (by omega)]; exact h.block k hk⟩
/-- What lies where a step has written one row of its own. -/
def spR (r : Option Sp) : Value := .tuple #[spV (r.getD noSp), .bool r.isSome]

/-- The world's library variable holds some number. -/
def MaxT (w : World) : Prop := ∃ m, w.cell? ⟨4, 0, none⟩ = some (.int .i64 m)
theorem cell_lt {w : World} {a : Addr} {v : Value} (h : w.cell? a = some v) : a.block < w.heap.size := by
  apply Classical.byContradiction
  intro hn
  have : w.heap[a.block]? = none := Array.getElem?_eq_none (by omega)
  unfold World.cell? at h
  simp [this] at h
theorem MaxT.keep {w w' : World} (h : MaxT w) (hb : Below w.heap.size w w') : MaxT w' := by
  obtain ⟨m, hm⟩ := h
  exact ⟨m, (hb.cell (cell_lt hm)).trans hm⟩

/-! ### the reader -/
structure Rdr (W0 : World) (b : Nat) (sa : Option Addr) (sn sc : Nat) (la : Option Addr) (lc : Nat) (L : List ByteArray) (O : List Op) (P : List ByteArray) (ov pv : Value) (w : World) : Prop where
  head : w.heap[b]? = some (.cells #[.slice sa sn sc, .slice la L.length lc, ov, pv] 250 (0, 0))
  left : TxtL W0 la L
  lcap : L.length ≤ lc ∧ lc ≤ maxLen ∧ (la = none → lc = 0)
  opts : w.ownsRow W0.heap.size 256 2 ov O.length (cellsC opC O)
  opnd : w.ownsRow W0.heap.size 9 1 pv P.length (strs P)
  low : Below W0.heap.size W0 w
  ge : W0.heap.size ≤ b
section
variable {W0 : World} {b : Nat} {sa : Option Addr} {sn sc : Nat} {la : Option Addr} {lc : Nat} {L : List ByteArray} {O : List Op} {P : List ByteArray} {ov pv : Value} {w w' w1 : World}
theorem Rdr.keep (h : Rdr W0 b sa sn sc la lc L O P ov pv w) (hb : Below w.heap.size w w') : Rdr W0 b sa sn sc la lc L O P ov pv w' :=
  ⟨(hb.block _ (heap_lt h.head)).trans h.head, h.left, h.lcap, owns_to h.opts hb, owns_to h.opnd hb, h.low.trans (hb.mono h.low.size), h.ge⟩
theorem Rdr.cell (h : Rdr W0 b sa sn sc la lc L O P ov pv w) {j : Nat} {v : Value} (hj : (#[.slice sa sn sc, .slice la L.length lc, ov, pv] : Array Value)[j]? = some v) : w.cell? ⟨b, j, none⟩ = some v := by
  rw [cell_of_row _ _ _ _ _ _ h.head]; exact hj
theorem Rdr.free (h : Rdr W0 b sa sn sc la lc L O P ov pv w) (j : Nat) : w.frozen? ⟨b, j, none⟩ = false := frozen_of_row _ _ _ _ _ h.head
theorem Rdr.lt (h : Rdr W0 b sa sn sc la lc L O P ov pv w) : b < w.heap.size := heap_lt h.head
theorem Rdr.o_ne (h : Rdr W0 b sa sn sc la lc L O P ov pv w) {k : Nat} (hk : ov.ownBlock = some k) : k ≠ b := by
  rintro rfl
  obtain ⟨cur, hc⟩ := owns_type h.opts hk
  rw [h.head] at hc
  simp at hc
theorem Rdr.p_ne (h : Rdr W0 b sa sn sc la lc L O P ov pv w) {k : Nat} (hk : pv.ownBlock = some k) : k ≠ b := by
  rintro rfl
  obtain ⟨cur, hc⟩ := owns_type h.opnd hk
  rw [h.head] at hc
  simp at hc
theorem Rdr.op_ne (h : Rdr W0 b sa sn sc la lc L O P ov pv w) {k j : Nat} (hk : ov.ownBlock = some k) (hj : pv.ownBlock = some j) : k ≠ j := by
  rintro rfl
  obtain ⟨cur, hc⟩ := owns_type h.opts hk
  obtain ⟨cur', hc'⟩ := owns_type h.opnd hj
  rw [hc'] at hc
  simp at hc
/-- Behind a store of what is left. -/
theorem Rdr.take (h : Rdr W0 b sa sn sc la lc L O P ov pv w) {la' : Option Addr} {lc' : Nat} {L' : List ByteArray} (hl : TxtL W0 la' L') (hc : L'.length ≤ lc' ∧ lc' ≤ maxLen ∧ (la' = none → lc' = 0)) : Rdr W0 b sa sn sc la' lc' L' O P ov pv (w.setCell ⟨b, 1, none⟩ (.slice la' L'.length lc')) := by
  refine ⟨heap_setCell_same _ _ _ _ _ _ h.head, hl, hc, ?_, ?_, h.low.setCell h.ge _, h.ge⟩
  · exact owns_at h.opts fun k hk => heap_setCell_other _ _ _ _ (h.o_ne hk)
  · exact owns_at h.opnd fun k hk => heap_setCell_other _ _ _ _ (h.p_ne hk)
/-- Behind an append of options, and the store of the new slice. -/
theorem Rdr.option (h : Rdr W0 b sa sn sc la lc L O P ov pv w) {E : List Op} {v1 : Value} (ho : w1.ownsRow W0.heap.size 256 2 v1 (O.length + E.length) (cellsC opC O ++ cellsC opC E)) (hg : w.grownBy w1 ov.ownBlock) :
    Rdr W0 b sa sn sc la lc L (O ++ E) P v1 pv (w1.setCell ⟨b, 2, none⟩ v1) := by
  have hh : w1.heap[b]? = some (.cells #[.slice sa sn sc, .slice la L.length lc, ov, pv] 250 (0, 0)) := (hg.block b h.lt (fun e => h.o_ne e.symm rfl)).trans h.head
  have hne : ∀ k, v1.ownBlock = some k → k ≠ b := fun k hk => by
    rintro rfl
    obtain ⟨cur, hc⟩ := owns_type ho hk
    rw [hh] at hc
    simp at hc
  refine ⟨heap_setCell_same _ _ _ _ _ _ hh, h.left, h.lcap, ?_, ?_, ?_, h.ge⟩
  · rw [List.length_append, cellsC_app]
    exact owns_at ho fun k hk => heap_setCell_other _ _ _ _ (hne k hk)
  · refine owns_at h.opnd fun k hk => ?_
    rw [heap_setCell_other _ _ _ _ (h.p_ne hk)]
    exact hg.block k (h.opnd.lt k hk).2 (fun e => h.op_ne e.symm hk rfl)
  · exact (h.low.grown hg h.low.size (fun k e => (h.opts.lt k e).1)).setCell h.ge _
/-- Behind an append of operands, and the store of the new slice. -/
theorem Rdr.operand (h : Rdr W0 b sa sn sc la lc L O P ov pv w) {E : List ByteArray} {v1 : Value} (ho : w1.ownsRow W0.heap.size 9 1 v1 (P.length + E.length) (strs P ++ strs E)) (hg : w.grownBy w1 pv.ownBlock) :
    Rdr W0 b sa sn sc la lc L O (P ++ E) ov v1 (w1.setCell ⟨b, 3, none⟩ v1) := by
  have hh : w1.heap[b]? = some (.cells #[.slice sa sn sc, .slice la L.length lc, ov, pv] 250 (0, 0)) := (hg.block b h.lt (fun e => h.p_ne e.symm rfl)).trans h.head
  have hne : ∀ k, v1.ownBlock = some k → k ≠ b := fun k hk => by
    rintro rfl
    obtain ⟨cur, hc⟩ := owns_type ho hk
    rw [hh] at hc
    simp at hc
  refine ⟨heap_setCell_same _ _ _ _ _ _ hh, h.left, h.lcap, ?_, ?_, ?_, h.ge⟩
  · refine owns_at h.opts fun k hk => ?_
    rw [heap_setCell_other _ _ _ _ (h.o_ne hk)]
    exact hg.block k (h.opts.lt k hk).2 (fun e => h.op_ne hk e.symm rfl)
  · rw [List.length_append, strs_app]
    exact owns_at ho fun k hk => heap_setCell_other _ _ _ _ (hne k hk)
  · exact (h.low.grown hg h.low.size (fun k e => (h.opnd.lt k e).1)).setCell h.ge _
end

/-- What a step answers: whether the argument is well; then the reader is as the model's step has it. -/
def Took (W0 : World) (b : Nat) (sa : Option Addr) (sn sc : Nat) (st : Option (List Op × List ByteArray × List ByteArray)) (e : Ending) (w' : World) : Prop := match st with
  | none => e = .returned (.bool false) ∧ Below W0.heap.size W0 w'
  | some s => e = .returned (.bool true) ∧ ∃ la' lc' ov' pv', Rdr W0 b sa sn sc la' lc' s.2.2 s.1 s.2.1 ov' pv' w'
theorem Took.no {W0 : World} {b : Nat} {sa : Option Addr} {sn sc : Nat} {w' : World} (h : Below W0.heap.size W0 w') : Took W0 b sa sn sc none (.returned (.bool false)) w' := ⟨rfl, h⟩
theorem Took.is {W0 : World} {b : Nat} {sa : Option Addr} {sn sc : Nat} {w' : World} {st : Option (List Op × List ByteArray × List ByteArray)} {e : Ending} (h : Took W0 b sa sn sc st e w') : e = .returned (.bool st.isSome) ∧ Took W0 b sa sn sc st (.returned (.bool st.isSome)) w' := by
  cases st with
  | none => exact ⟨h.1, rfl, h.2⟩
  | some s => exact ⟨h.1, rfl, h.2⟩
theorem Took.yes {W0 : World} {b : Nat} {sa : Option Addr} {sn sc : Nat} {w' : World} {O : List Op} {P L : List ByteArray} {la' : Option Addr} {lc' : Nat} {ov' pv' : Value} (h : Rdr W0 b sa sn sc la' lc' L O P ov' pv' w') : Took W0 b sa sn sc (some (O, P, L)) (.returned (.bool true)) w' := ⟨rfl, la', lc', ov', pv', h⟩
end Go.Proofs.YtknfhphhcnbndaaGreatDoor.A

namespace Go.Proofs.YtknfhphhcnbndaaGreatDoor.A
open List renaming setIfInBounds_toArray → lt, set_cons_zero → l0, set_cons_succ → ls
open Go.Proofs.YtknfhphhcnbndaaGreatDoor.B
open Go.RowKit

/-! ### the model -/
/-- Is an option's letter one of these? -/
def oneOf (s : List UInt8) (o : Op) : Bool := s.any fun c => decide (o.letter = (c.toNat : Int))
theorem ib_mem (b : UInt8) : ∀ l : List UInt8, (0 ≤ Lib.indexByte l b ↔ b ∈ l)
  | [] => by simp [Lib.indexByte]
  | c :: l => by
    have ih := ib_mem b l
    have hg := Lib.indexByte_ge l b
    unfold Lib.indexByte
    by_cases h : c = b
    · subst h
      simp
    · have h2 : (c == b) = false := beq_eq_false_iff_ne.2 h
      rw [h2, if_neg (by simp)]
      by_cases h3 : Lib.indexByte l b = -1
      · rw [h3, if_pos (by simp)]
        rw [h3] at ih
        constructor
        · intro z; omega
        · intro z
          rcases List.mem_cons.1 z with z | z
          · exact absurd z.symm h
          · have := ih.2 z; omega
      · rw [if_neg (by simpa using h3)]
        constructor
        · intro z
          exact List.mem_cons_of_mem _ (ih.1 (by omega))
        · intro z
          omega
theorem oneOf_ib {o : Op} (s : List UInt8) (h0 : 0 ≤ o.letter) (h1 : o.letter < 256) : (oneOf s o = true ↔ 0 ≤ Lib.indexByte s o.letter.toNat.toUInt8) := by
  have hb : (o.letter.toNat.toUInt8.toNat : Int) = o.letter := by
    rw [show o.letter.toNat.toUInt8.toNat = o.letter.toNat % 256 from rfl]
    omega
  rw [ib_mem]
  unfold oneOf
  rw [List.any_eq_true]
  constructor
  · rintro ⟨c, hc, he⟩
    have he := of_decide_eq_true he
    have : o.letter.toNat.toUInt8 = c := UInt8.toNat_inj.1 (by omega)
    rw [this]
    exact hc
  · intro hm
    exact ⟨_, hm, decide_eq_true hb.symm⟩
/-! ### Last -/
/-! ### Has -/
def HasRel (l : List Op) (c : Int) (w : World) (v : Value) (wr : World) : Prop := ∃ i : Nat, i ≤ l.length ∧ v = .int .i64 (i : Int) ∧ Hid (∀ (j : Nat) (x : Op), j < i → l[j]? = some x → x.letter ≠ c) ∧ Hid (Below w.heap.size w wr)
set_option maxRecDepth 100000 in
set_option maxHeartbeats 4000000 in
theorem has_any (l : List Op) (c : Int) (a : Option Addr) (cap : Nat) (w : World) (H : RowL 2 opC w a l) (hl : l.length ≤ 100000) :
    Calls Tryz.prog 251 #[.slice a l.length cap, .int .u8 c] w fun e w' => e = .returned (.bool (l.any fun o => decide (o.letter = c))) ∧ Below w.heap.size w w' := by
  have HR := Lib.hid H
  clear H
  go_enter Tryz.func251, Tryz.ntmps251
  go_wp2_with fail
  go_loopw [9] (HasRel l c w) (fun v _ => l.length - (intOf v).toNat)
  case atStart => exact ⟨0, Nat.zero_le _, rfl, Lib.hid (fun j x hj => by omega), Lib.hid (Below.refl _ _)⟩
  case round =>
    obtain ⟨i, hi, rfl, HNo, HB⟩ := hrel
    by_cases hlt : i < l.length
    · have e1 : decide ((i : Int) < (l.length : Int)) = true := decide_eq_true (by omega)
      obtain ⟨o, ho⟩ : ∃ o, l[i]? = some o := ⟨_, List.getElem?_eq_getElem hlt⟩
      have HOo := Lib.hid ho
      obtain ⟨g, of, rfl, hg, hr⟩ := (HR.out.keep HB.out).at_ ho
      have r0 : wr.cell? ⟨g, of + i * 2, none⟩ = some (.int .u8 o.letter) := hr 0 _ rfl
      have r1 : wr.cell? ⟨g, of + i * 2 + 1, none⟩ = some (.string o.value) := hr 1 _ rfl
      clear ho hr hg
      have HBa := Lib.hid (HB.out.alloc HB.out.size (.cells #[.int .u8 o.letter, .string o.value] 256))
      by_cases hc : o.letter = c
      · have e2 : (o.letter == c) = true := beq_iff_eq.2 hc
        have HF := Lib.hid (show (l.any fun o => decide (o.letter = c)) = true from List.any_eq_true.2 ⟨o, List.mem_of_getElem? HOo.out, decide_eq_true hc⟩)
        clear hc
        go_wp2_with fail
        go_ret
        exact ⟨by rw [HF.out]; rfl, HBa.out⟩
      · have e2 : (o.letter == c) = false := beq_eq_false_iff_ne.2 hc
        have HN := Lib.hid (show ∀ (j : Nat) (x : Op), j < i + 1 → l[j]? = some x → x.letter ≠ c from fun j x hj hx => by
          rcases Nat.lt_or_ge j i with q | q
          · exact HNo.out j x q hx
          · obtain rfl : j = i := by omega
            rw [HOo.out] at hx
            obtain rfl := Option.some.inj hx
            exact hc)
        clear hc
        go_wp2_with fail
        go_roundw
        case rel => exact ⟨i + 1, by omega, by simp, HN, HBa⟩
        case measure => simp [intOf]; omega
    · have e1 : decide ((i : Int) < (l.length : Int)) = false := decide_eq_false (by omega)
      have HF := Lib.hid (show (l.any fun o => decide (o.letter = c)) = false from by
        rw [List.any_eq_false]
        intro o ho
        obtain ⟨j, hj⟩ := List.mem_iff_getElem?.1 ho
        have := HNo.out j o (by have := (List.getElem?_eq_some_iff.1 hj).1; omega) hj
        simpa using this)
      go_wp2_with fail
      go_ret
      exact ⟨by rw [HF.out]; rfl, HB.out⟩
end Go.Proofs.YtknfhphhcnbndaaGreatDoor.A

namespace Go.Proofs.YtknfhphhcnbndaaGreatDoor.A
open List renaming setIfInBounds_toArray → lt, set_cons_zero → l0, set_cons_succ → ls
open Go.Proofs.YtknfhphhcnbndaaGreatDoor.B
open Go.RowKit

section
variable {W0 : World} {b : Nat} {sa : Option Addr} {sn sc : Nat} {la : Option Addr} {lc : Nat} {L : List ByteArray} {O : List Op} {P : List ByteArray} {ov pv : Value} {w : World}
theorem next_any {x : ByteArray} (h : Rdr W0 b sa sn sc la lc (x :: L) O P ov pv w) :
    Calls Tryz.prog 163 #[.pointer (some ⟨b, 0, none⟩)] w fun e w' => e = .returned (.string x) ∧ (∃ la' lc', Rdr W0 b sa sn sc la' lc' L O P ov pv w') ∧ ∀ k, k ≠ b → w'.heap[k]? = w.heap[k]? := by
  obtain ⟨g, o, rfl, hg, hr, ht⟩ := h.left.tail
  obtain ⟨hc1, hc2, _⟩ := h.lcap
  rw [List.length_cons] at hc1
  have c1 : w.cell? ⟨b, 1, none⟩ = some (.slice (some ⟨g, o, none⟩) (L.length + 1) lc) := h.cell (j := 1) rfl
  have f1 := h.free 1
  have cx : w.cell? ⟨g, o, none⟩ = some (.string x) := (h.low.cell (p := ⟨g, o, none⟩) hg).trans (hr 0 _ rfl)
  have HH := Lib.hid h
  have HT := Lib.hid ht
  have hw1 : IntKind.i64.wrap (((L.length + 1 : Nat) : Int)) = ((L.length + 1 : Nat) : Int) := IntWalk.i64_in _ (by unfold maxLen at hc2; omega)
  clear h hr ht hg
  by_cases h1 : lc = 1
  · obtain rfl : L = [] := List.eq_nil_of_length_eq_zero (by omega)
    subst h1
    go_enter Tryz.func163, Tryz.ntmps163
    go_wp2_with fail
    go_ret
    exact ⟨rfl, ⟨_, _, HH.out.take (la' := some ⟨g, o, none⟩) (lc' := 0) (L' := []) (RowL.nil _ _) ⟨by decide, by decide, fun _ => rfl⟩⟩, fun k hk => heap_setCell_other _ _ _ _ hk⟩
  · go_enter Tryz.func163, Tryz.ntmps163
    go_wp2_with fail
    go_ret
    exact ⟨rfl, ⟨_, _, HH.out.take HT.out ⟨by omega, by omega, fun q => by cases q⟩⟩, fun k hk => heap_setCell_other _ _ _ _ hk⟩
/-- The reader's cells where its block is as it was. -/
theorem Rdr.same (h : Rdr W0 b sa sn sc la lc L O P ov pv w) {W : World} (hW : W.heap[b]? = w.heap[b]?) : W.cell? ⟨b, 1, none⟩ = some (.slice la L.length lc) ∧ W.cell? ⟨b, 2, none⟩ = some ov ∧ W.cell? ⟨b, 3, none⟩ = some pv ∧ (∀ j, W.frozen? ⟨b, j, none⟩ = false) := by
  have q := hW.trans h.head
  refine ⟨?_, ?_, ?_, fun j => frozen_of_row _ _ _ _ _ q⟩ <;> (rw [cell_of_row _ _ _ _ _ _ q]; rfl)

set_option maxHeartbeats 1000000 in
theorem operand_any (x : ByteArray) (h : Rdr W0 b sa sn sc la lc L O P ov pv w) (hP : P.length ≤ 100000) :
    Calls Tryz.prog 222 #[.pointer (some ⟨b, 0, none⟩), .string x] w fun e w' => Took W0 b sa sn sc (some (O, P ++ [x], L)) e w' := by
  obtain ⟨it, hit, ht0, ht1, ht2⟩ := info_parts infoTxt
  have HS := Lib.hid (fun W hW => h.same (W := W) hW)
  have c3 := (HS.out w rfl).2.2.1
  have HB := Lib.hid h.lt
  have HN := Lib.hid (fun k hk => h.p_ne (k := k) hk)
  have HO := Lib.hid h.opnd
  have HG := Lib.hid h.low.size
  have HK := Lib.hid (h.keep ((Below.refl _ _).alloc (Nat.le_refl _) (.cells #[.string x] 9)))
  clear h
  go_enter Tryz.func222, Tryz.ntmps222
  go_wp2_with (at_builtin; go_loud (refine wpList_append_lies _ rfl (.tmp 9) (.tmp 11) 40 rfl W0.heap.size 9 it (.string ⟨#[]⟩) 1 16 Tryz.underlying40 hit ht0 ht1 ht2 rfl (by decide) _ _ _ rfl (HO.out.alloc _) ⟨w.heap.size, 0, none⟩ 1 1 [.string x] rfl rfl (World.news_of_block (heap_alloc_new _ _)) (by intro u hu; simp at hu; subst hu; rfl) (by decide) (by unfold maxLen; omega) (by omega) (by have := HG.out; simp; omega) _ rfl ?_; intro g5 cap5 w5 hown hgrow hat hlt; have hb5 := (hgrow.block b (by have := HB.out; simp; omega) (fun e => HN.out _ e.symm rfl)).trans (heap_alloc_old _ _ HB.out); have c5 := (HS.out _ hb5).2.2.1; have f5 := (HS.out _ hb5).2.2.2 3; have HX := Lib.hid (HK.out.operand (E := [x]) hown hgrow); clear hown hgrow hat hlt hb5))
  go_ret
  exact Took.yes HX.out

set_option maxRecDepth 100000 in
set_option maxHeartbeats 4000000 in
theorem add_any (s : Sp) (v : ByteArray) (h : Rdr W0 b sa sn sc la lc L O P ov pv w) (hO : O.length ≤ 100000) :
    Calls Tryz.prog 267 #[.pointer (some ⟨b, 0, none⟩), spV s, .string v] w fun e w' => e = .returned (.tuple #[]) ∧ ∃ ov', Rdr W0 b sa sn sc la lc L (O ++ [⟨s.letter, v⟩]) P ov' pv w' := by
  obtain ⟨i0, hi0, hz0, hz1, hz2⟩ := info_parts infoOp
  have HBw := Lib.hid h.lt
  have HN0 := Lib.hid (fun k hk => h.o_ne (k := k) hk)
  have HV0 := Lib.hid (fun k (hk : ov.ownBlock = some k) => (h.opts.lt k hk).2)
  have HWa := Lib.hid (h.keep ((Below.refl _ _).alloc (Nat.le_refl _) (.cells #[.int .u8 s.letter, .string s.long, .bool s.value] 254)))
  clear h
  unfold spV
  go_enter Tryz.func267, Tryz.ntmps267
  go_upto_region 1 with fail
  have HX := Lib.hid (heap_alloc_new w (.cells #[.int .u8 s.letter, .string s.long, .bool s.value] 254))
  generalize w.alloc (.cells #[.int .u8 s.letter, .string s.long, .bool s.value] 254) = w3 at HX HWa ⊢
  obtain ⟨B1, hB1⟩ : ∃ B1, w.heap.size = B1 := ⟨_, rfl⟩
  have HNx := Lib.hid (show some B1 ≠ ov.ownBlock from fun e => by have := HV0.out B1 e.symm; omega)
  have HNb := Lib.hid (show some b ≠ ov.ownBlock from fun e => HN0.out b e.symm rfl)
  rw [hB1] at HX ⊢
  have HCb := Lib.hid (fun W hW => HWa.out.same (W := W) hW)
  have HCx := Lib.hid (show ∀ W : World, W.heap[B1]? = w3.heap[B1]? → W.cell? ⟨B1, 0, none⟩ = some (.int .u8 s.letter) from fun W hW => by
    rw [cell_of_row _ _ _ _ _ _ (hW.trans HX.out)]; rfl)
  have HLb := Lib.hid HWa.out.lt
  have HLx := Lib.hid (heap_lt HX.out)
  have HLb2 := Lib.hid (show b < (w3.drew.alloc (.cells (opC ⟨s.letter, v⟩).toArray 256)).heap.size from by have := HLb.out; simp; omega)
  have HLx2 := Lib.hid (show B1 < (w3.drew.alloc (.cells (opC ⟨s.letter, v⟩).toArray 256)).heap.size from by have := HLx.out; simp; omega)
  have HW3 := Lib.hid (HWa.out.keep (show Below w3.heap.size w3 (w3.drew.alloc (.cells (opC ⟨s.letter, v⟩).toArray 256)) from ((Below.refl _ _).drew).alloc (Nat.le_refl _) _))
  have HO3 := Lib.hid HW3.out.opts
  have HG3 := Lib.hid HW3.out.low.size
-- TILL 1
  refine B.Till.region (z := 13) (S := fun w' => w'.heap[b]? = w3.heap[b]? ∧ w'.heap[B1]? = w3.heap[B1]?) (by kernel_rfl) ⟨rfl, rfl⟩ (fun hHeld => ?_)
  refine B.Till.take (i := 0) (oi := ⟨some 6, .move (.tmp 0), 303, "opts.go:174", #[], none⟩) (v := .pointer (some ⟨b, 0, none⟩)) rfl (by kernel_rfl) (by kernel_rfl) (by kernel_rfl) (by kernel_rfl) (fun _ _ _ h => h) (Or.inl ⟨by rfl, fun w0 hS0 => ?_⟩) (by assumption) ?_
  · go_simp
  try simp only [Act.put, lt, l0, ls]
  refine B.Till.take (i := 1) (oi := ⟨some 7, .move (.tmp 0), 303, "opts.go:174", #[], none⟩) (v := .pointer (some ⟨b, 0, none⟩)) rfl (by kernel_rfl) (by kernel_rfl) (by kernel_rfl) (by kernel_rfl) (fun _ _ _ h => h) (Or.inl ⟨by rfl, fun w0 hS0 => ?_⟩) (by assumption) ?_
  · go_simp
  try simp only [Act.put, lt, l0, ls]
  refine B.Till.take (i := 2) (oi := ⟨some 8, .nilCheck (.tmp 7), 0, "opts.go:174", #[⟨1, .data⟩], none⟩) (v := .pointer (some ⟨b, 0, none⟩)) rfl (by kernel_rfl) (by kernel_rfl) (by kernel_rfl) (by kernel_rfl) (fun _ _ _ h => h) (Or.inl ⟨by rfl, fun w0 hS0 => ?_⟩) (by assumption) ?_
  · go_simp
  try simp only [Act.put, lt, l0, ls]
  refine B.Till.take (i := 3) (oi := ⟨some 9, .fieldAddr 250 (.tmp 8) 2, 0, "opts.go:174", #[⟨2, .data⟩], none⟩) (v := .pointer (some ⟨b, 2, none⟩)) rfl (by kernel_rfl) (by kernel_rfl) (by kernel_rfl) (by kernel_rfl) (fun _ _ _ h => h) (Or.inl ⟨by rfl, fun w0 hS0 => ?_⟩) (by assumption) ?_
  · go_simp
  try simp only [Act.put, lt, l0, ls]
  refine B.Till.take (i := 4) (oi := ⟨some 10, .load 120 (.tmp 9), 120, "opts.go:174", #[⟨3, .data⟩], none⟩) (v := ov) rfl (by kernel_rfl) (by kernel_rfl) (by kernel_rfl) (by kernel_rfl) (fun _ _ _ h => h) (Or.inl ⟨by rfl, fun w0 hS0 => ?_⟩) (by assumption) ?_
  · have c2 := (HCb.out _ hS0.1).2.1; go_simp
  try simp only [Act.put, lt, l0, ls]
  refine B.Till.take (i := 5) (oi := ⟨some 11, .fieldAddr 254 (.tmp 4) 0, 0, "opts.go:174", #[], none⟩) (v := .pointer (some ⟨B1, 0, none⟩)) rfl (by kernel_rfl) (by kernel_rfl) (by kernel_rfl) (by kernel_rfl) (fun _ _ _ h => h) (Or.inl ⟨by rfl, fun w0 hS0 => ?_⟩) (by assumption) ?_
  · go_simp
  try simp only [Act.put, lt, l0, ls]
  refine B.Till.take (i := 6) (oi := ⟨some 12, .load 5 (.tmp 11), 5, "opts.go:174", #[⟨5, .data⟩], none⟩) (v := .int .u8 s.letter) rfl (by kernel_rfl) (by kernel_rfl) (by kernel_rfl) (by kernel_rfl) (fun _ _ _ h => h) (Or.inl ⟨by rfl, fun w0 hS0 => ?_⟩) (by assumption) ?_
  · have r0 := HCx.out _ hS0.2; go_simp
  try simp only [Act.put, lt, l0, ls]
  refine B.Till.take (i := 7) (oi := ⟨some 13, .move (.tmp 2), 9, "opts.go:174", #[], none⟩) (v := .string v) rfl (by kernel_rfl) (by kernel_rfl) (by kernel_rfl) (by kernel_rfl) (fun _ _ _ h => h) (Or.inl ⟨by rfl, fun w0 hS0 => ?_⟩) (by assumption) ?_
  · go_simp
  try simp only [Act.put, lt, l0, ls]
  refine B.Till.take (i := 8) (oi := ⟨some 14, .build 256 #[(0, .tmp 12), (1, .tmp 13)], 256, "opts.go:174", #[⟨6, .data⟩, ⟨7, .data⟩], none⟩) (v := .agg #[.int .u8 s.letter, .string v]) rfl (by kernel_rfl) (by kernel_rfl) (by kernel_rfl) (by kernel_rfl) (fun _ _ _ h => h) (Or.inl ⟨by rfl, fun w0 hS0 => ?_⟩) (by assumption) ?_
  · go_simp
  try simp only [Act.put, lt, l0, ls]
  refine B.Till.next (i := 9) (o := ⟨some 15, .buildSlice 120 1 #[(0, .tmp 14)], 120, "opts.go:174", #[⟨8, .data⟩], none⟩) (by kernel_rfl) rfl (fun K hK => ?_)
  go_simp
  refine hK.out _ _ (fun _ => ⟨(heap_alloc_old _ _ HLb.out).trans hHeld.1, (heap_alloc_old _ _ HLx.out).trans hHeld.2⟩) ?_
  clear hK K
  try simp only [Act.put, lt, l0, ls]
  refine B.Till.next (i := 10) (o := ⟨some 16, .call ⟨.builtin .append, #[.tmp 10, .tmp 15], #[120, 120]⟩, 120, "opts.go:174", #[⟨4, .data⟩, ⟨9, .data⟩], none⟩) (by kernel_rfl) rfl (fun K hK => ?_)
  refine step_append_lies _ rfl (.tmp 10) (.tmp 15) 120 rfl W0.heap.size 256 i0 _ 2 24 Tryz.underlying120 hi0 hz0 hz1 hz2 rfl (by decide) ov O.length (cellsC opC O) (by simp [Act.eval]) HO3.out ⟨w3.heap.size, 0, none⟩ 1 1 (opC ⟨s.letter, v⟩) (by simp [Act.eval]) rfl (World.news_of_block (heap_alloc_new _ _)) (opC_one _) (by decide) (by unfold maxLen; omega) (by omega) HG3.out _ rfl ?_
  intro g1 cap1 w4 hown hgrow hat hlt1
  have hS4 : w4.heap[b]? = w3.heap[b]? ∧ w4.heap[B1]? = w3.heap[B1]? := ⟨(hgrow.block _ HLb2.out HNb.out).trans (heap_alloc_old _ _ HLb.out), (hgrow.block _ HLx2.out HNx.out).trans (heap_alloc_old _ _ HLx.out)⟩
  have HW4 := Lib.hid (HW3.out.option (E := [⟨s.letter, v⟩]) hown hgrow)
  clear hown hgrow hat hlt1
  refine hK.out _ _ (fun _ => hS4) ?_
  clear hK K
  try simp only [Act.put, lt, l0, ls]
  refine B.Till.next (i := 11) (o := ⟨some 17, .nilCheck (.tmp 6), 0, "opts.go:174", #[⟨0, .data⟩, ⟨0, .phase⟩, ⟨1, .phase⟩, ⟨2, .phase⟩, ⟨3, .phase⟩, ⟨4, .phase⟩, ⟨5, .phase⟩, ⟨6, .phase⟩, ⟨7, .phase⟩, ⟨8, .phase⟩, ⟨9, .phase⟩, ⟨10, .phase⟩], none⟩) (by kernel_rfl) rfl (fun K hK => ?_)
  go_simp
  refine hK.out _ _ (fun _ => hS4) ?_
  clear hK K
  try simp only [Act.put, lt, l0, ls]
  refine B.Till.next (i := 12) (o := ⟨some 18, .fieldAddr 250 (.tmp 17) 2, 0, "opts.go:174", #[⟨11, .data⟩, ⟨0, .phase⟩, ⟨1, .phase⟩, ⟨2, .phase⟩, ⟨3, .phase⟩, ⟨4, .phase⟩, ⟨5, .phase⟩, ⟨6, .phase⟩, ⟨7, .phase⟩, ⟨8, .phase⟩, ⟨9, .phase⟩, ⟨10, .phase⟩], none⟩) (by kernel_rfl) rfl (fun K hK => ?_)
  go_simp
  refine hK.out _ _ (fun _ => hS4) ?_
  clear hK K
  try simp only [Act.put, lt, l0, ls]
  refine B.Till.next (i := 13) (o := ⟨none, .store 120 (.tmp 18) (.tmp 16), 0, "opts.go:174", #[⟨12, .data⟩, ⟨10, .data⟩, ⟨10, .chain⟩, ⟨0, .phase⟩, ⟨1, .phase⟩, ⟨2, .phase⟩, ⟨3, .phase⟩, ⟨4, .phase⟩, ⟨5, .phase⟩, ⟨6, .phase⟩, ⟨7, .phase⟩, ⟨8, .phase⟩, ⟨9, .phase⟩, ⟨10, .phase⟩], none⟩) (by kernel_rfl) rfl (fun K hK => ?_)
  obtain ⟨_, c2, _, ff⟩ := HCb.out _ hS4.1
  have f2 := ff 2
  clear ff
  go_simp
  refine hK.out _ _ (fun q => absurd rfl q) ?_
  clear hK K
  try simp only [Act.put, lt, l0, ls]
  refine B.Till.done (by kernel_rfl) ?_
-- TILL 1 END
  go_wp2_with fail
  go_end0
  exact ⟨rfl, _, HW4.out⟩

set_option maxRecDepth 100000 in
set_option maxHeartbeats 4000000 in
theorem end_any (x : ByteArray) (h : Rdr W0 b sa sn sc la lc L O P ov pv w) (hP : P.length + L.length ≤ 100000) :
    Calls Tryz.prog 219 #[.pointer (some ⟨b, 0, none⟩), .string x] w fun e w' => Took W0 b sa sn sc (some (O, P ++ L, [])) e w' := by
  obtain ⟨it, hit, ht0, ht1, ht2⟩ := info_parts infoTxt
  have HCb := Lib.hid (fun W hW => h.same (W := W) hW)
  have HB := Lib.hid h.lt
  have HN := Lib.hid (fun k hk => h.p_ne (k := k) hk)
  have HK2 := Lib.hid (h.keep (show Below w.heap.size w w.drew from (Below.refl _ _).drew))
  have HO2 := Lib.hid HK2.out.opnd
  have HG2 := Lib.hid HK2.out.low.size
  have HL2 := Lib.hid (HK2.out.left.keep HK2.out.low)
  have HNl := Lib.hid h.lcap.2.2
  clear h
  go_enter Tryz.func219, Tryz.ntmps219
  go_upto_region 1 with fail
-- TILL 2
  refine B.Till.region (z := 12) (S := fun w' => w'.heap[b]? = w.heap[b]?) (by kernel_rfl) rfl (fun hHeld => ?_)
  refine B.Till.take (i := 0) (oi := ⟨some 5, .move (.tmp 0), 303, "opts.go:90", #[], none⟩) (v := .pointer (some ⟨b, 0, none⟩)) rfl (by kernel_rfl) (by kernel_rfl) (by kernel_rfl) (by kernel_rfl) (fun _ _ _ h => h) (Or.inl ⟨by rfl, fun w0 hS0 => ?_⟩) (by assumption) ?_
  · go_simp
  try simp only [Act.put, lt, l0, ls]
  refine B.Till.take (i := 1) (oi := ⟨some 6, .move (.tmp 0), 303, "opts.go:90", #[], none⟩) (v := .pointer (some ⟨b, 0, none⟩)) rfl (by kernel_rfl) (by kernel_rfl) (by kernel_rfl) (by kernel_rfl) (fun _ _ _ h => h) (Or.inl ⟨by rfl, fun w0 hS0 => ?_⟩) (by assumption) ?_
  · go_simp
  try simp only [Act.put, lt, l0, ls]
  refine B.Till.take (i := 2) (oi := ⟨some 7, .nilCheck (.tmp 6), 0, "opts.go:90", #[⟨1, .data⟩], none⟩) (v := .pointer (some ⟨b, 0, none⟩)) rfl (by kernel_rfl) (by kernel_rfl) (by kernel_rfl) (by kernel_rfl) (fun _ _ _ h => h) (Or.inl ⟨by rfl, fun w0 hS0 => ?_⟩) (by assumption) ?_
  · go_simp
  try simp only [Act.put, lt, l0, ls]
  refine B.Till.take (i := 3) (oi := ⟨some 8, .fieldAddr 250 (.tmp 7) 3, 0, "opts.go:90", #[⟨2, .data⟩], none⟩) (v := .pointer (some ⟨b, 3, none⟩)) rfl (by kernel_rfl) (by kernel_rfl) (by kernel_rfl) (by kernel_rfl) (fun _ _ _ h => h) (Or.inl ⟨by rfl, fun w0 hS0 => ?_⟩) (by assumption) ?_
  · go_simp
  try simp only [Act.put, lt, l0, ls]
  refine B.Till.take (i := 4) (oi := ⟨some 9, .load 40 (.tmp 8), 40, "opts.go:90", #[⟨3, .data⟩], none⟩) (v := pv) rfl (by kernel_rfl) (by kernel_rfl) (by kernel_rfl) (by kernel_rfl) (fun _ _ _ h => h) (Or.inl ⟨by rfl, fun w0 hS0 => ?_⟩) (by assumption) ?_
  · have c3 := (HCb.out _ hS0).2.2.1; go_simp
  try simp only [Act.put, lt, l0, ls]
  refine B.Till.take (i := 5) (oi := ⟨some 10, .move (.tmp 0), 303, "opts.go:90", #[], none⟩) (v := .pointer (some ⟨b, 0, none⟩)) rfl (by kernel_rfl) (by kernel_rfl) (by kernel_rfl) (by kernel_rfl) (fun _ _ _ h => h) (Or.inl ⟨by rfl, fun w0 hS0 => ?_⟩) (by assumption) ?_
  · go_simp
  try simp only [Act.put, lt, l0, ls]
  refine B.Till.take (i := 6) (oi := ⟨some 11, .nilCheck (.tmp 10), 0, "opts.go:90", #[⟨5, .data⟩], none⟩) (v := .pointer (some ⟨b, 0, none⟩)) rfl (by kernel_rfl) (by kernel_rfl) (by kernel_rfl) (by kernel_rfl) (fun _ _ _ h => h) (Or.inl ⟨by rfl, fun w0 hS0 => ?_⟩) (by assumption) ?_
  · go_simp
  try simp only [Act.put, lt, l0, ls]
  refine B.Till.take (i := 7) (oi := ⟨some 12, .fieldAddr 250 (.tmp 11) 1, 0, "opts.go:90", #[⟨6, .data⟩], none⟩) (v := .pointer (some ⟨b, 1, none⟩)) rfl (by kernel_rfl) (by kernel_rfl) (by kernel_rfl) (by kernel_rfl) (fun _ _ _ h => h) (Or.inl ⟨by rfl, fun w0 hS0 => ?_⟩) (by assumption) ?_
  · go_simp
  try simp only [Act.put, lt, l0, ls]
  refine B.Till.take (i := 8) (oi := ⟨some 13, .load 40 (.tmp 12), 40, "opts.go:90", #[⟨7, .data⟩], none⟩) (v := .slice la L.length lc) rfl (by kernel_rfl) (by kernel_rfl) (by kernel_rfl) (by kernel_rfl) (fun _ _ _ h => h) (Or.inl ⟨by rfl, fun w0 hS0 => ?_⟩) (by assumption) ?_
  · have c1 := (HCb.out _ hS0).1; go_simp
  try simp only [Act.put, lt, l0, ls]
  refine B.Till.next (i := 9) (o := ⟨some 14, .call ⟨.builtin .append, #[.tmp 9, .tmp 13], #[40, 40]⟩, 40, "opts.go:90", #[⟨4, .data⟩, ⟨8, .data⟩], none⟩) (by kernel_rfl) rfl (fun K hK => ?_)
  refine step_append_rowL rfl (.tmp 9) (.tmp 13) 40 rfl W0.heap.size 9 it (.string ⟨#[]⟩) 16 Tryz.underlying40 hit ht0 ht1 ht2 rfl (by decide) txC_len txC_one pv P.length (strs P) (by simp [Act.eval]) HO2.out la lc L (by simp [Act.eval]) HL2.out HNl.out (by unfold maxLen; omega) (by omega) HG2.out ?_
  intro ao cp w5 hown hgrow
  rw [txC_strs] at hown
  have hb5 : w5.heap[b]? = w.heap[b]? := hgrow.block b HB.out (fun e => HN.out _ e.symm rfl)
  have HW5 := Lib.hid (HK2.out.operand (E := L) hown hgrow)
  clear hown hgrow
  refine hK.out _ _ (fun _ => hb5) ?_
  clear hK K
  try simp only [Act.put, lt, l0, ls]
  refine B.Till.next (i := 10) (o := ⟨some 15, .nilCheck (.tmp 5), 0, "opts.go:90", #[⟨0, .data⟩, ⟨0, .phase⟩, ⟨1, .phase⟩, ⟨2, .phase⟩, ⟨3, .phase⟩, ⟨4, .phase⟩, ⟨5, .phase⟩, ⟨6, .phase⟩, ⟨7, .phase⟩, ⟨8, .phase⟩, ⟨9, .phase⟩], none⟩) (by kernel_rfl) rfl (fun K hK => ?_)
  go_simp
  refine hK.out _ _ (fun _ => hb5) ?_
  clear hK K
  try simp only [Act.put, lt, l0, ls]
  refine B.Till.next (i := 11) (o := ⟨some 16, .fieldAddr 250 (.tmp 15) 3, 0, "opts.go:90", #[⟨10, .data⟩, ⟨0, .phase⟩, ⟨1, .phase⟩, ⟨2, .phase⟩, ⟨3, .phase⟩, ⟨4, .phase⟩, ⟨5, .phase⟩, ⟨6, .phase⟩, ⟨7, .phase⟩, ⟨8, .phase⟩, ⟨9, .phase⟩], none⟩) (by kernel_rfl) rfl (fun K hK => ?_)
  go_simp
  refine hK.out _ _ (fun _ => hb5) ?_
  clear hK K
  try simp only [Act.put, lt, l0, ls]
  refine B.Till.next (i := 12) (o := ⟨none, .store 40 (.tmp 16) (.tmp 14), 0, "opts.go:90", #[⟨11, .data⟩, ⟨9, .data⟩, ⟨9, .chain⟩, ⟨0, .phase⟩, ⟨1, .phase⟩, ⟨2, .phase⟩, ⟨3, .phase⟩, ⟨4, .phase⟩, ⟨5, .phase⟩, ⟨6, .phase⟩, ⟨7, .phase⟩, ⟨8, .phase⟩, ⟨9, .phase⟩], none⟩) (by kernel_rfl) rfl (fun K hK => ?_)
  obtain ⟨_, _, c3, ff⟩ := HCb.out _ hb5
  have f3 := ff 3
  clear ff
  go_simp
  refine hK.out _ _ (fun q => absurd rfl q) ?_
  clear hK K
  try simp only [Act.put, lt, l0, ls]
  refine B.Till.done (by kernel_rfl) ?_
-- TILL 2 END
  generalize w5.setCell ⟨b, 3, none⟩ (.slice ao (P.length + L.length) cp) = w6 at HW5 ⊢
  clear c3 f3 hb5 hHeld
  have c1 := HW5.out.cell (j := 1) rfl
  have f1 := HW5.out.free 1
  have HX := Lib.hid (HW5.out.take (la' := none) (lc' := 0) (L' := []) (RowL.nil _ _) ⟨by decide, by decide, fun _ => rfl⟩)
  go_wp2_with fail
  go_ret
  exact Took.yes HX.out

end
end Go.Proofs.YtknfhphhcnbndaaGreatDoor.A

namespace Go.Proofs.YtknfhphhcnbndaaGreatDoor.Z
open List renaming setIfInBounds_toArray → lt, set_cons_zero → l0, set_cons_succ → ls
open Go.Proofs.YtknfhphhcnbndaaGreatDoor.A

/-- OUT, ERR, the status. -/
structure St where
  out : ByteArray
  err : ByteArray
  st : Int
def nlB : ByteArray := ⟨#[10]⟩
def rowO (o t : ByteArray) : ByteArray := o ++ t ++ nlB
def St.row (s : St) (t : ByteArray) : St := ⟨rowO s.out t, s.err, s.st⟩
def St.fail (s : St) (q : Bool) (m : ByteArray) : St := ⟨s.out, if q = true then s.err else s.err ++ m, 1⟩
/-- What is wrong. -/
def messageT (e : Int) : ByteArray :=
  if e = 2 then ⟨#[78, 111, 32, 115, 117, 99, 104, 32, 102, 105, 108, 101, 32, 111, 114, 32, 100, 105, 114, 101, 99, 116, 111, 114, 121]⟩ else
  if e = 3 then ⟨#[78, 111, 116, 32, 97, 32, 100, 105, 114, 101, 99, 116, 111, 114, 121]⟩ else
  if e = 5 then ⟨#[80, 101, 114, 109, 105, 115, 115, 105, 111, 110, 32, 100, 101, 110, 105, 101, 100]⟩ else
  if e = 6 then ⟨#[84, 111, 111, 32, 109, 97, 110, 121, 32, 108, 101, 118, 101, 108, 115, 32, 111, 102, 32, 115, 121, 109, 98, 111, 108, 105, 99, 32, 108, 105, 110, 107, 115]⟩ else
  if e = 7 then ⟨#[70, 105, 108, 101, 32, 110, 97, 109, 101, 32, 116, 111, 111, 32, 108, 111, 110, 103]⟩ else
  if e = 8 then ⟨#[73, 110, 112, 117, 116, 47, 111, 117, 116, 112, 117, 116, 32, 101, 114, 114, 111, 114]⟩ else
  ⟨#[73, 110, 118, 97, 108, 105, 100, 32, 97, 114, 103, 117, 109, 101, 110, 116]⟩
/-- A message: what quotes is any function. -/
def msgT (qf : ByteArray → ByteArray) (nm x : ByteArray) (e : Int) : ByteArray := nm ++ ⟨#[58, 32]⟩ ++ qf x ++ ⟨#[58, 32]⟩ ++ messageT e ++ nlB
def stepE (qf : ByteArray → ByteArray) (nm : ByteArray) (q : Bool) (s : St) (x : ByteArray) (r : ByteArray × Int) : St := if r.2 = 0 then s.row r.1 else s.fail q (msgT qf nm x r.2)
/-- Operand by operand: a row, or a message. -/
def eachM (qf : ByteArray → ByteArray) (nm : ByteArray) (q : Bool) : List ByteArray → List (ByteArray × Int) → St → St
  | x :: l, r :: rs, s => eachM qf nm q l rs (stepE qf nm q s x r)
  | _, _, s => s
theorem each_snoc (qf : ByteArray → ByteArray) (nm : ByteArray) (q : Bool) (x : ByteArray) (r : ByteArray × Int) : ∀ (l : List ByteArray) (rs : List (ByteArray × Int)) (s : St), rs.length = l.length → eachM qf nm q (l ++ [x]) (rs ++ [r]) s = stepE qf nm q (eachM qf nm q l rs s) x r
  | [], [], s, _ => rfl
  | [], _ :: _, s, h => by simp at h
  | _ :: _, [], s, h => by simp at h
  | y :: l, z :: rs, s, h => each_snoc qf nm q x r l rs (stepE qf nm q s y z) (by simpa using h)
end Go.Proofs.YtknfhphhcnbndaaGreatDoor.Z
