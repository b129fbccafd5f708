/-
  Arguments read, by a model: options, operands, what is to blame; that bits are read as a whole. Conditions: each fact's own.
  Arguments read, step by step, by the model: what an argument makes of what is left and what was read; letters, names, a spec that is meant. Conditions: each fact's own.
  What a run writes, by a model: rows, messages, operand by operand. Conditions: each fact's own.
-/
import Derived.Lib.RuneCountTail
import Derived.Lib.CutLaws
set_option linter.unusedSimpArgs false
set_option linter.unusedVariables false
namespace Go.Proofs.YtknfhphhcnbndaaGreatDoor.A

structure Sp where
  letter : Int
  long : ByteArray
  value : Bool
structure Op where
  letter : Int
  value : ByteArray
inductive Rd where
  | bad (a : ByteArray)
  | ok (l : List Op) (rest : List ByteArray)
def noSp : Sp := ⟨0, ByteArray.empty, false⟩
def Rd.opts (o : List Op) : Rd → Rd
  | .bad a => .bad a
  | .ok l r => .ok (o ++ l) r
def Rd.operand (a : ByteArray) : Rd → Rd
  | .bad b => .bad b
  | .ok l r => .ok l (a :: r)

/-! ### texts -/
def listB (s : ByteArray) : List UInt8 := s.data.toList
def byL (l : List UInt8) : ByteArray := ⟨l.toArray⟩
def beginsL (s t : List UInt8) : Bool := t.isPrefixOf s
/-- Up to an equals sign. -/
def nameL (l : List UInt8) : List UInt8 := l.takeWhile fun b => b != 61
def restL (l : List UInt8) : List UInt8 := l.dropWhile fun b => b != 61

/-! ### what is meant -/
/-- The first place from k on at which a test says yes. -/
def findK (p : Sp → Bool) : List Sp → Nat → Option Nat
  | [], _ => none
  | s :: l, k => if p s = true then some k else findK p l (k + 1)
def startsB (name : List UInt8) (s : Sp) : Bool := !(listB s.long).isEmpty && beginsL (listB s.long) name
def wholeB (name : List UInt8) (s : Sp) : Bool := (listB s.long == name) && !name.isEmpty
def meantM (specs : List Sp) (name : List UInt8) : Option Nat :=
  match findK (wholeB name) specs 0 with
  | some k => some k
  | none => if specs.countP (startsB name) = 1 then findK (startsB name) specs 0 else none
def letterM (specs : List Sp) (c : UInt8) : Option Nat := findK (fun s => decide (s.letter = (c.toNat : Int))) specs 0
def spAt (specs : List Sp) (k : Nat) : Sp := specs.getD k noSp

/-! ### letters -/
/-- What letters give: wrong, or options and whether the last one, of a letter, takes the next argument. -/
inductive Lt where
  | bad
  | all (l : List Op)
  | next (l : List Op) (c : Int)
def Lt.more (o : Op) : Lt → Lt
  | .bad => .bad
  | .all l => .all (o :: l)
  | .next l c => .next (o :: l) c
def lettersM (specs : List Sp) : List UInt8 → Lt
  | [] => .all []
  | c :: r => match letterM specs c with
    | none => .bad
    | some k => if (spAt specs k).value = true then (match r with
        | [] => .next [] (c.toNat : Int)
        | _ :: _ => .all [⟨(c.toNat : Int), byL r⟩]) else (lettersM specs r).more ⟨(c.toNat : Int), ByteArray.empty⟩

/-! ### arguments -/
/-- What one argument is. -/
inductive Kd where
  | stop
  | operand
  | bad
  | opts (l : List Op)
  | next (l : List Op) (c : Int)
def longM (specs : List Sp) (l : List UInt8) : Kd :=
  match meantM specs (nameL l) with
  | none => .bad
  | some k => match restL l with
    | [] => if (spAt specs k).value = true then .next [] (spAt specs k).letter else .opts [⟨(spAt specs k).letter, ByteArray.empty⟩]
    | _ :: v => if (spAt specs k).value = true then .opts [⟨(spAt specs k).letter, byL v⟩] else .bad
def kindL (specs : List Sp) (l : List UInt8) : Kd :=
  match l with
  | [] => .operand
  | [_] => .operand
  | b :: c :: r => if b ≠ 45 then .operand else if c = 45 then (if r = [] then .stop else longM specs r) else (match lettersM specs (c :: r) with
    | .bad => .bad
    | .all l => .opts l
    | .next l c => .next l c)
def kindA (specs : List Sp) (a : ByteArray) : Kd := kindL specs (listB a)
def readM (specs : List Sp) : List ByteArray → Rd
  | [] => .ok [] []
  | [a] => match kindA specs a with
    | .stop => .ok [] []
    | .operand => .ok [] [a]
    | .bad => .bad a
    | .opts l => .ok l []
    | .next _ _ => .bad a
  | a :: b :: r => match kindA specs a with
    | .stop => .ok [] (b :: r)
    | .operand => (readM specs (b :: r)).operand a
    | .bad => .bad a
    | .opts l => (readM specs (b :: r)).opts l
    | .next l c => (readM specs r).opts (l ++ [⟨c, b⟩])
theorem read_cons (specs : List Sp) (a : ByteArray) (r : List ByteArray) : readM specs (a :: r) = match kindA specs a with
    | .stop => .ok [] r
    | .operand => (readM specs r).operand a
    | .bad => .bad a
    | .opts l => (readM specs r).opts l
    | .next l c => match r with
      | [] => .bad a
      | b :: r' => (readM specs r').opts (l ++ [⟨c, b⟩]) := by
  cases r with
  | nil =>
    unfold readM
    cases kindA specs a <;> simp [Rd.operand, Rd.opts]
  | cons b r =>
    rw [readM]
/-! ### bits -/
/-! ### the last one of some letters -/
end Go.Proofs.YtknfhphhcnbndaaGreatDoor.A

namespace Go.Proofs.YtknfhphhcnbndaaGreatDoor.A

/-! ### a reading under way -/
def finL (O : List Op) (P : List ByteArray) : Rd → Rd
  | .bad a => .bad a
  | .ok l r => .ok (O ++ l) (P ++ r)
theorem fin_nil (x : Rd) : finL [] [] x = x := by cases x <;> rfl
theorem fin_opts (O : List Op) (P : List ByteArray) (o : List Op) (x : Rd) : finL O P (x.opts o) = finL (O ++ o) P x := by
  cases x <;> simp [Rd.opts, finL]
theorem fin_operand (O : List Op) (P : List ByteArray) (a : ByteArray) (x : Rd) : finL O P (x.operand a) = finL O (P ++ [a]) x := by
  cases x <;> simp [Rd.operand, finL]
/-- What an argument makes of the options, the operands and what is left; none: it is to blame. -/
def stepM (k : Kd) (a : ByteArray) (O : List Op) (P L : List ByteArray) : Option (List Op × List ByteArray × List ByteArray) := match k with
  | .stop => some (O, P ++ L, [])
  | .operand => some (O, P ++ [a], L)
  | .bad => none
  | .opts l => some (O ++ l, P, L)
  | .next l c => match L with
    | [] => none
    | b :: r => some (O ++ (l ++ [⟨c, b⟩]), P, r)
theorem read_step (specs : List Sp) (a : ByteArray) (O : List Op) (P L : List ByteArray) : finL O P (readM specs (a :: L)) = match stepM (kindA specs a) a O P L with
    | none => .bad a
    | some s => finL s.1 s.2.1 (readM specs s.2.2) := by
  rw [read_cons]
  unfold stepM
  cases kindA specs a with
  | stop => simp [finL, readM]
  | operand => exact fin_operand _ _ _ _
  | bad => rfl
  | opts l => exact fin_opts _ _ _ _
  | next l c =>
    cases L with
    | nil => rfl
    | cons b r => exact fin_opts _ _ _ _
theorem read_bad {specs : List Sp} {a : ByteArray} {O : List Op} {P L : List ByteArray} (h : stepM (kindA specs a) a O P L = none) : finL O P (readM specs (a :: L)) = .bad a := by rw [read_step, h]
theorem read_on {specs : List Sp} {a : ByteArray} {O O' : List Op} {P P' L L' : List ByteArray} (h : stepM (kindA specs a) a O P L = some (O', P', L')) : finL O P (readM specs (a :: L)) = finL O' P' (readM specs L') := by rw [read_step, h]
theorem read_end (specs : List Sp) (O : List Op) (P : List ByteArray) : finL O P (readM specs []) = .ok O P := by rw [readM, finL, List.append_nil, List.append_nil]
theorem step_left {k : Kd} {a : ByteArray} {O O' : List Op} {P P' L L' : List ByteArray} (h : stepM k a O P L = some (O', P', L')) : L'.length ≤ L.length ∧ P'.length + L'.length ≤ P.length + L.length + 1 := by
  unfold stepM at h
  split at h
  · simp only [Option.some.injEq, Prod.mk.injEq] at h
    obtain ⟨rfl, rfl, rfl⟩ := h
    exact ⟨by simp, by simp⟩
  · simp only [Option.some.injEq, Prod.mk.injEq] at h
    obtain ⟨rfl, rfl, rfl⟩ := h
    exact ⟨by simp, by simp; omega⟩
  · cases h
  · simp only [Option.some.injEq, Prod.mk.injEq] at h
    obtain ⟨rfl, rfl, rfl⟩ := h
    exact ⟨by simp, by simp⟩
  · split at h
    · cases h
    · simp only [Option.some.injEq, Prod.mk.injEq] at h
      obtain ⟨rfl, rfl, rfl⟩ := h
      exact ⟨by simp, by simp; omega⟩

theorem step_sub {k : Kd} {a : ByteArray} {O O' : List Op} {P P' L L' : List ByteArray} (h : stepM k a O P L = some (O', P', L')) : ∀ y ∈ L', y ∈ L := by
  unfold stepM at h
  split at h
  · simp only [Option.some.injEq, Prod.mk.injEq] at h
    obtain ⟨rfl, rfl, rfl⟩ := h
    intro y hy
    cases hy
  · simp only [Option.some.injEq, Prod.mk.injEq] at h
    obtain ⟨rfl, rfl, rfl⟩ := h
    exact fun y hy => hy
  · cases h
  · simp only [Option.some.injEq, Prod.mk.injEq] at h
    obtain ⟨rfl, rfl, rfl⟩ := h
    exact fun y hy => hy
  · split at h
    · cases h
    · simp only [Option.some.injEq, Prod.mk.injEq] at h
      obtain ⟨rfl, rfl, rfl⟩ := h
      exact fun y hy => List.mem_cons_of_mem _ hy

/-! ### letters -/
def Lt.mores (O : List Op) : Lt → Lt
  | .bad => .bad
  | .all l => .all (O ++ l)
  | .next l c => .next (O ++ l) c
theorem mores_nil (x : Lt) : x.mores [] = x := by cases x <;> rfl
theorem mores_more (O : List Op) (o : Op) (x : Lt) : (x.more o).mores O = x.mores (O ++ [o]) := by
  cases x <;> simp [Lt.more, Lt.mores]
theorem letters_nil (specs : List Sp) : lettersM specs [] = .all [] := rfl
theorem letters_cons (specs : List Sp) (c : UInt8) (r : List UInt8) : lettersM specs (c :: r) = match letterM specs c with
    | none => .bad
    | some k => if (spAt specs k).value = true then (match r with
        | [] => .next [] (c.toNat : Int)
        | _ :: _ => .all [⟨(c.toNat : Int), byL r⟩]) else (lettersM specs r).more ⟨(c.toNat : Int), ByteArray.empty⟩ := rfl
theorem letters_bad {specs : List Sp} {c : UInt8} {r : List UInt8} (h : letterM specs c = none) : lettersM specs (c :: r) = .bad := by rw [letters_cons, h]
theorem letters_more {specs : List Sp} {c : UInt8} {r : List UInt8} {k : Nat} (h : letterM specs c = some k) (hv : (spAt specs k).value = false) : lettersM specs (c :: r) = (lettersM specs r).more ⟨(c.toNat : Int), ByteArray.empty⟩ := by
  rw [letters_cons, h]
  dsimp only
  rw [if_neg (by rw [hv]; simp)]
theorem letters_next {specs : List Sp} {c : UInt8} {k : Nat} (h : letterM specs c = some k) (hv : (spAt specs k).value = true) : lettersM specs [c] = .next [] (c.toNat : Int) := by
  rw [letters_cons, h]
  dsimp only
  rw [if_pos hv]
theorem letters_last {specs : List Sp} {c : UInt8} {r : List UInt8} {k : Nat} (h : letterM specs c = some k) (hv : (spAt specs k).value = true) (hr : r ≠ []) : lettersM specs (c :: r) = .all [⟨(c.toNat : Int), byL r⟩] := by
  rw [letters_cons, h]
  dsimp only
  rw [if_pos hv]
  cases r with
  | nil => exact absurd rfl hr
  | cons d r => rfl
/-- What letters make of an argument. -/
def ltK : Lt → Kd
  | .bad => .bad
  | .all l => .opts l
  | .next l c => .next l c

/-! ### what an argument is, by its bytes -/
theorem kind_letters {specs : List Sp} {c : UInt8} {r : List UInt8} (hc : c ≠ 45) : kindL specs (45 :: c :: r) = ltK (lettersM specs (c :: r)) := by
  unfold kindL
  dsimp only
  rw [if_neg (by simp), if_neg hc]
  cases lettersM specs (c :: r) <;> rfl
theorem kind_long {specs : List Sp} {r : List UInt8} (hr : r ≠ []) : kindL specs (45 :: 45 :: r) = longM specs r := by
  unfold kindL
  dsimp only
  rw [if_neg (by simp), if_pos rfl, if_neg hr]
/-! ### places -/
theorem find_ge {p : Sp → Bool} : ∀ {l : List Sp} {k j : Nat}, findK p l k = some j → k ≤ j ∧ j < k + l.length
  | [], k, j, h => by cases h
  | s :: l, k, j, h => by
    unfold findK at h
    split at h
    · obtain rfl := Option.some.inj h
      simp
    · have := find_ge h
      simp
      omega
theorem find_none {p : Sp → Bool} : ∀ {l : List Sp} {k : Nat}, (∀ s ∈ l, p s = false) → findK p l k = none
  | [], k, h => rfl
  | s :: l, k, h => by
    unfold findK
    rw [if_neg (by rw [h s List.mem_cons_self]; simp)]
    exact find_none fun x hx => h x (List.mem_cons_of_mem _ hx)
theorem find_skip {p : Sp → Bool} : ∀ {a b : List Sp} {k : Nat}, (∀ s ∈ a, p s = false) → findK p (a ++ b) k = findK p b (k + a.length)
  | [], b, k, h => rfl
  | s :: a, b, k, h => by
    rw [List.cons_append, findK, if_neg (by rw [h s List.mem_cons_self]; simp), find_skip fun x hx => h x (List.mem_cons_of_mem _ hx), List.length_cons, show k + 1 + a.length = k + (a.length + 1) by omega]
theorem find_hit {p : Sp → Bool} {l : List Sp} {i : Nat} {s : Sp} (hs : l[i]? = some s) (hp : p s = true) (hno : ∀ (j : Nat) (x : Sp), j < i → l[j]? = some x → p x = false) : findK p l 0 = some i := by
  obtain ⟨hi, he⟩ := List.getElem?_eq_some_iff.1 hs
  have e : l = l.take i ++ (s :: l.drop (i + 1)) := by
    rw [← he]
    simp
  rw [e, find_skip (fun x hx => ?_), findK, if_pos hp, List.length_take, Nat.min_eq_left (by omega), Nat.zero_add]
  obtain ⟨j, hj⟩ := List.mem_iff_getElem?.1 hx
  have hji : j < i := by
    have := (List.getElem?_eq_some_iff.1 hj).1
    simp at this
    omega
  rw [List.getElem?_take_of_lt hji] at hj
  exact hno j x hji hj
theorem find_miss {p : Sp → Bool} {l : List Sp} (hno : ∀ (j : Nat) (x : Sp), j < l.length → l[j]? = some x → p x = false) : findK p l 0 = none :=
  find_none fun x hx => by
    obtain ⟨j, hj⟩ := List.mem_iff_getElem?.1 hx
    exact hno j x (List.getElem?_eq_some_iff.1 hj).1 hj
theorem spAt_of {specs : List Sp} {k : Nat} {s : Sp} (h : specs[k]? = some s) : spAt specs k = s := by
  unfold spAt
  rw [List.getD_eq_getElem?_getD, h]
  rfl

/-! ### the name that is meant -/
theorem meant_whole {specs : List Sp} {name : List UInt8} {i : Nat} {s : Sp} (hs : specs[i]? = some s) (hp : wholeB name s = true) (hno : ∀ (j : Nat) (x : Sp), j < i → specs[j]? = some x → wholeB name x = false) : meantM specs name = some i := by
  unfold meantM
  rw [find_hit hs hp hno]
theorem meant_one {specs : List Sp} {name : List UInt8} (hno : ∀ (j : Nat) (x : Sp), j < specs.length → specs[j]? = some x → wholeB name x = false) (h1 : specs.countP (startsB name) = 1) : meantM specs name = findK (startsB name) specs 0 := by
  unfold meantM
  rw [find_miss hno]
  dsimp only
  rw [if_pos h1]
theorem meant_none {specs : List Sp} {name : List UInt8} (hno : ∀ (j : Nat) (x : Sp), j < specs.length → specs[j]? = some x → wholeB name x = false) (h1 : specs.countP (startsB name) ≠ 1) : meantM specs name = none := by
  unfold meantM
  rw [find_miss hno]
  dsimp only
  rw [if_neg h1]
/-- How many of the first i begin so, and the last of these. -/
def cntK (p : Sp → Bool) (l : List Sp) (i : Nat) : Nat := (l.take i).countP p
def lastK (p : Sp → Bool) (l : List Sp) (i : Nat) : Sp := ((l.take i).filter p).getLastD noSp
theorem take_one {l : List Sp} {i : Nat} {s : Sp} (h : l[i]? = some s) : l.take (i + 1) = l.take i ++ [s] := by
  rw [List.take_add_one, h]
  rfl
theorem cnt_yes {p : Sp → Bool} {l : List Sp} {i : Nat} {s : Sp} (h : l[i]? = some s) (hp : p s = true) : cntK p l (i + 1) = cntK p l i + 1 := by
  unfold cntK
  rw [take_one h, List.countP_append]
  simp [hp]
theorem cnt_no {p : Sp → Bool} {l : List Sp} {i : Nat} {s : Sp} (h : l[i]? = some s) (hp : p s = false) : cntK p l (i + 1) = cntK p l i := by
  unfold cntK
  rw [take_one h, List.countP_append]
  simp [hp]
theorem last_yes {p : Sp → Bool} {l : List Sp} {i : Nat} {s : Sp} (h : l[i]? = some s) (hp : p s = true) : lastK p l (i + 1) = s := by
  unfold lastK
  rw [take_one h, List.filter_append]
  simp [hp]
theorem last_no {p : Sp → Bool} {l : List Sp} {i : Nat} {s : Sp} (h : l[i]? = some s) (hp : p s = false) : lastK p l (i + 1) = lastK p l i := by
  unfold lastK
  rw [take_one h, List.filter_append]
  simp [hp]
theorem cnt_le (p : Sp → Bool) (l : List Sp) (i : Nat) : cntK p l i ≤ l.length := by
  unfold cntK
  exact Nat.le_trans List.countP_le_length (by rw [List.length_take]; omega)
/-- The one that begins so is found by its place. -/
theorem find_one {p : Sp → Bool} : ∀ {l : List Sp} {k : Nat}, l.countP p = 1 → ∃ j s, findK p l k = some j ∧ k ≤ j ∧ l[j - k]? = some s ∧ l.filter p = [s]
  | [], k, h => by simp at h
  | x :: l, k, h => by
    unfold findK
    by_cases hx : p x = true
    · rw [if_pos hx]
      refine ⟨k, x, rfl, Nat.le_refl _, by simp, ?_⟩
      rw [List.countP_cons_of_pos hx] at h
      rw [List.filter_cons_of_pos hx, List.filter_eq_nil_iff.2 (List.countP_eq_zero.1 (by omega))]
    · rw [if_neg hx]
      rw [List.countP_cons_of_neg hx] at h
      obtain ⟨j, s, h1, h2, h3, h4⟩ := find_one (k := k + 1) h
      refine ⟨j, s, h1, by omega, ?_, by rw [List.filter_cons_of_neg hx]; exact h4⟩
      rw [show j - k = (j - (k + 1)) + 1 by omega, List.getElem?_cons_succ]
      exact h3
theorem last_one {p : Sp → Bool} {l : List Sp} (h : cntK p l l.length = 1) : ∃ j, findK p l 0 = some j ∧ spAt l j = lastK p l l.length := by
  unfold cntK at h
  rw [List.take_length] at h
  obtain ⟨j, s, h1, _, h3, h4⟩ := find_one (k := 0) h
  refine ⟨j, h1, ?_⟩
  rw [Nat.sub_zero] at h3
  rw [spAt_of h3]
  unfold lastK
  rw [List.take_length, h4]
  rfl
/-! ### a name, and what stands behind a sign -/
theorem take_drop_sign (l : List UInt8) : nameL l ++ restL l = l := List.takeWhile_append_dropWhile
/-- How many bytes stand ahead of the sign. -/
def eqAt (l : List UInt8) : Nat := (nameL l).length
theorem name_take (l : List UInt8) : nameL l = l.take (eqAt l) := by
  have := congrArg (List.take (nameL l).length) (take_drop_sign l)
  rw [List.take_left] at this
  exact this
theorem rest_drop (l : List UInt8) : restL l = l.drop (eqAt l) := by
  have := congrArg (List.drop (nameL l).length) (take_drop_sign l)
  rw [List.drop_left] at this
  exact this
theorem eqAt_le (l : List UInt8) : eqAt l ≤ l.length := by
  have := congrArg List.length (take_drop_sign l)
  rw [List.length_append] at this
  unfold eqAt
  omega
theorem eqAt_no {l : List UInt8} {i : Nat} (h : i < eqAt l) : ∃ b, l[i]? = some b ∧ b ≠ 61 := by
  have hi : i < (nameL l).length := h
  refine ⟨(nameL l)[i], ?_, ?_⟩
  · have := eqAt_le l
    rw [List.getElem?_eq_getElem (by omega), Option.some.injEq]
    have e : l[i]? = (nameL l)[i]? := by
      conv => lhs; rw [← take_drop_sign l]
      rw [List.getElem?_append_left hi]
    rw [List.getElem?_eq_getElem (by omega), List.getElem?_eq_getElem hi] at e
    exact Option.some.inj e
  · have := List.all_takeWhile (p := fun b : UInt8 => b != 61) (l := l)
    have hm : (nameL l)[i] ∈ l.takeWhile fun b => b != 61 := List.getElem_mem hi
    have := List.all_eq_true.1 this _ hm
    simpa using this
theorem eqAt_yes {l : List UInt8} (h : eqAt l < l.length) : l[eqAt l]? = some 61 := by
  have h1 : restL l ≠ [] := by
    rw [rest_drop]
    intro e
    have := List.drop_eq_nil_iff.1 e
    omega
  have h2 : (restL l).head? = some 61 := by
    unfold restL
    have := List.head?_dropWhile_not (fun b : UInt8 => b != 61) l
    unfold restL at h1
    cases hd : l.dropWhile (fun b => b != 61) with
    | nil => exact absurd hd h1
    | cons b r =>
      rw [hd] at this
      simp at this
      rw [this]
      rfl
  rw [rest_drop, List.head?_drop] at h2
  exact h2
theorem rest_nil {l : List UInt8} (h : eqAt l = l.length) : restL l = [] := by rw [rest_drop, h, List.drop_length]
theorem rest_cons {l : List UInt8} (h : eqAt l < l.length) : restL l = 61 :: l.drop (eqAt l + 1) := by
  rw [rest_drop, List.drop_eq_getElem_cons h]
  have := eqAt_yes h
  rw [List.getElem?_eq_getElem h] at this
  rw [Option.some.inj this]
theorem long_bad {specs : List Sp} {l : List UInt8} (h : meantM specs (nameL l) = none) : longM specs l = .bad := by
  unfold longM
  rw [h]
theorem long_next {specs : List Sp} {l : List UInt8} {k : Nat} (h : meantM specs (nameL l) = some k) (he : eqAt l = l.length) (hv : (spAt specs k).value = true) : longM specs l = .next [] (spAt specs k).letter := by
  unfold longM
  rw [h, rest_nil he]
  dsimp only
  rw [if_pos hv]
theorem long_plain {specs : List Sp} {l : List UInt8} {k : Nat} (h : meantM specs (nameL l) = some k) (he : eqAt l = l.length) (hv : (spAt specs k).value = false) : longM specs l = .opts [⟨(spAt specs k).letter, ByteArray.empty⟩] := by
  unfold longM
  rw [h, rest_nil he]
  dsimp only
  rw [if_neg (by rw [hv]; simp)]
theorem long_given {specs : List Sp} {l : List UInt8} {k : Nat} (h : meantM specs (nameL l) = some k) (he : eqAt l < l.length) (hv : (spAt specs k).value = true) : longM specs l = .opts [⟨(spAt specs k).letter, byL (l.drop (eqAt l + 1))⟩] := by
  unfold longM
  rw [h, rest_cons he]
  dsimp only
  rw [if_pos hv]
theorem long_much {specs : List Sp} {l : List UInt8} {k : Nat} (h : meantM specs (nameL l) = some k) (he : eqAt l < l.length) (hv : (spAt specs k).value = false) : longM specs l = .bad := by
  unfold longM
  rw [h, rest_cons he]
  dsimp only
  rw [if_neg (by rw [hv]; simp)]

/-! ### how many options an argument gives -/
theorem letters_len (specs : List Sp) : ∀ (l : List UInt8), match lettersM specs l with
    | .bad => True
    | .all x => x.length ≤ l.length
    | .next x _ => x.length + 1 ≤ l.length
  | [] => Nat.le_refl _
  | c :: r => by
    have ih := letters_len specs r
    rw [letters_cons]
    cases letterM specs c with
    | none => trivial
    | some k =>
      dsimp only
      by_cases hv : (spAt specs k).value = true
      · rw [if_pos hv]
        cases r with
        | nil => simp
        | cons d r => simp
      · rw [if_neg hv]
        cases hl : lettersM specs r with
        | bad => trivial
        | all x => rw [hl] at ih; simp [Lt.more]; exact ih
        | next x d => rw [hl] at ih; simp [Lt.more]; exact ih
def kdLen : Kd → Nat
  | .opts l => l.length
  | .next l _ => l.length
  | _ => 0
theorem long_len (specs : List Sp) (l : List UInt8) : kdLen (longM specs l) ≤ 1 := by
  unfold longM
  cases meantM specs (nameL l) with
  | none => exact Nat.zero_le _
  | some k =>
    dsimp only
    cases restL l with
    | nil => dsimp only; by_cases h : (spAt specs k).value = true <;> simp [h, kdLen]
    | cons d v => dsimp only; by_cases h : (spAt specs k).value = true <;> simp [h, kdLen]
theorem kind_len (specs : List Sp) : ∀ l, kdLen (kindL specs l) ≤ l.length
  | [] => Nat.le_refl _
  | [b] => Nat.zero_le _
  | b :: c :: r => by
    unfold kindL
    dsimp only
    by_cases h1 : b ≠ 45
    · rw [if_pos h1]; exact Nat.zero_le _
    · rw [if_neg h1]
      by_cases h2 : c = 45
      · rw [if_pos h2]
        by_cases h3 : r = []
        · rw [if_pos h3]; exact Nat.zero_le _
        · rw [if_neg h3]
          have := long_len specs r
          simp
          omega
      · rw [if_neg h2]
        have := letters_len specs (c :: r)
        cases hl : lettersM specs (c :: r) with
        | bad => exact Nat.zero_le _
        | all x => rw [hl] at this; simp [kdLen] at this ⊢; omega
        | next x d => rw [hl] at this; simp [kdLen] at this ⊢; omega
theorem step_opts {specs : List Sp} {a : ByteArray} {O O' : List Op} {P P' L L' : List ByteArray} (h : stepM (kindA specs a) a O P L = some (O', P', L')) : O'.length ≤ O.length + (listB a).length + 1 := by
  have hk : kdLen (kindA specs a) ≤ (listB a).length := kind_len specs _
  unfold stepM at h
  split at h
  · simp only [Option.some.injEq, Prod.mk.injEq] at h
    obtain ⟨rfl, rfl, rfl⟩ := h
    omega
  · simp only [Option.some.injEq, Prod.mk.injEq] at h
    obtain ⟨rfl, rfl, rfl⟩ := h
    omega
  · cases h
  · rename_i l e
    rw [e] at hk
    simp only [Option.some.injEq, Prod.mk.injEq] at h
    obtain ⟨rfl, rfl, rfl⟩ := h
    rw [List.length_append]
    simp only [kdLen] at hk
    omega
  · rename_i l c e
    rw [e] at hk
    simp only [kdLen] at hk
    split at h
    · cases h
    · simp only [Option.some.injEq, Prod.mk.injEq] at h
      obtain ⟨rfl, rfl, rfl⟩ := h
      simp
      omega

/-! ### Cut -/
theorem occ_sign (l : List UInt8) (i : Nat) : Lib.occAt l [61] i = (l[i]? == some 61) := by
  unfold Lib.occAt
  by_cases h : i < l.length
  · rw [List.drop_eq_getElem_cons h, List.getElem?_eq_getElem h]
    simp [List.isPrefixOf]
    rw [Bool.eq_iff_iff, beq_iff_eq, beq_iff_eq]
    exact ⟨fun z => z.symm, fun z => z.symm⟩
  · rw [List.drop_eq_nil_of_le (by omega), List.getElem?_eq_none (by omega)]
    rfl
theorem cut_yes {l : List UInt8} (h : eqAt l < l.length) : Lib.cut l [61] = (nameL l, l.drop (eqAt l + 1), true) := by
  have e : Lib.index l [61] = (eqAt l : Int) := Lib.index_first (by omega) (by rw [occ_sign, eqAt_yes h]; rfl) (fun j hj => by
    rw [occ_sign]
    obtain ⟨b, hb, hne⟩ := eqAt_no hj
    rw [hb]
    exact beq_eq_false_iff_ne.2 fun z => hne (Option.some.inj z))
  unfold Lib.cut
  rw [e, if_pos (by omega), Int.toNat_natCast, ← name_take]
  rfl
theorem cut_no {l : List UInt8} (h : eqAt l = l.length) : Lib.cut l [61] = (l, [], false) := by
  have e : Lib.index l [61] = -1 := Lib.index_none (fun j hj => by
    rw [occ_sign]
    by_cases q : j < l.length
    · obtain ⟨b, hb, hne⟩ := eqAt_no (l := l) (i := j) (by omega)
      rw [hb]
      exact beq_eq_false_iff_ne.2 fun z => hne (Option.some.inj z)
    · rw [List.getElem?_eq_none (by omega)]
      rfl)
  unfold Lib.cut
  rw [e, if_neg (by omega)]
theorem name_all {l : List UInt8} (h : eqAt l = l.length) : nameL l = l := by rw [name_take, h, List.take_length]

/-! ### letters, by their places -/
theorem letter_is {specs : List Sp} {c : UInt8} {k : Nat} (h : letterM specs c = some k) : (spAt specs k).letter = (c.toNat : Int) := by
  unfold letterM at h
  have : ∀ (l : List Sp) (i k : Nat), findK (fun s => decide (s.letter = (c.toNat : Int))) l i = some k → (l.getD (k - i) noSp).letter = (c.toNat : Int) := by
    intro l
    induction l with
    | nil => intro i k h; cases h
    | cons s l ih =>
      intro i k h
      have hge := (find_ge h).1
      unfold findK at h
      split at h
      · rename_i hp
        obtain rfl := Option.some.inj h
        rw [Nat.sub_self]
        exact of_decide_eq_true hp
      · have := ih (i + 1) k h
        have h2 := (find_ge h).1
        rw [show k - i = (k - (i + 1)) + 1 by omega]
        simpa using this
  have := this specs 0 k h
  rwa [Nat.sub_zero] at this
theorem ext_list (s : ByteArray) (i : Nat) : listB (s.extract i s.size) = (listB s).drop i := by
  unfold listB
  rw [Lib.extract_eq]
  exact List.take_of_length_le (by rw [List.length_drop]; simp)
theorem ext_byL {s : ByteArray} {l : List UInt8} {i : Nat} (h : listB s = l) : s.extract i s.size = byL (l.drop i) := by
  have := ext_list s i
  rw [h] at this
  apply ByteArray.ext
  apply Array.toList_inj.1
  exact this
theorem drop_at {l : List UInt8} {i : Nat} (h : i < l.length) : l.drop i = l[i] :: l.drop (i + 1) := List.drop_eq_getElem_cons h
end Go.Proofs.YtknfhphhcnbndaaGreatDoor.A

namespace Go.Proofs.YtknfhphhcnbndaaGreatDoor.Z
open Go.Proofs.YtknfhphhcnbndaaGreatDoor.A

/-- OUT, ERR, the status. -/
structure St where
  out : ByteArray
  err : ByteArray
  st : Int
def nlB : ByteArray := ⟨#[10]⟩
def rowO (o t : ByteArray) : ByteArray := o ++ t ++ nlB
def St.row (s : St) (t : ByteArray) : St := ⟨rowO s.out t, s.err, s.st⟩
def St.fail (s : St) (q : Bool) (m : ByteArray) : St := ⟨s.out, if q = true then s.err else s.err ++ m, 1⟩
/-- What is wrong. -/
def messageT (e : Int) : ByteArray :=
  if e = 2 then ⟨#[78, 111, 32, 115, 117, 99, 104, 32, 102, 105, 108, 101, 32, 111, 114, 32, 100, 105, 114, 101, 99, 116, 111, 114, 121]⟩ else
  if e = 3 then ⟨#[78, 111, 116, 32, 97, 32, 100, 105, 114, 101, 99, 116, 111, 114, 121]⟩ else
  if e = 5 then ⟨#[80, 101, 114, 109, 105, 115, 115, 105, 111, 110, 32, 100, 101, 110, 105, 101, 100]⟩ else
  if e = 6 then ⟨#[84, 111, 111, 32, 109, 97, 110, 121, 32, 108, 101, 118, 101, 108, 115, 32, 111, 102, 32, 115, 121, 109, 98, 111, 108, 105, 99, 32, 108, 105, 110, 107, 115]⟩ else
  if e = 7 then ⟨#[70, 105, 108, 101, 32, 110, 97, 109, 101, 32, 116, 111, 111, 32, 108, 111, 110, 103]⟩ else
  if e = 8 then ⟨#[73, 110, 112, 117, 116, 47, 111, 117, 116, 112, 117, 116, 32, 101, 114, 114, 111, 114]⟩ else
  ⟨#[73, 110, 118, 97, 108, 105, 100, 32, 97, 114, 103, 117, 109, 101, 110, 116]⟩
/-- A message: what quotes is any function. -/
def msgT (qf : ByteArray → ByteArray) (nm x : ByteArray) (e : Int) : ByteArray := nm ++ ⟨#[58, 32]⟩ ++ qf x ++ ⟨#[58, 32]⟩ ++ messageT e ++ nlB
def stepE (qf : ByteArray → ByteArray) (nm : ByteArray) (q : Bool) (s : St) (x : ByteArray) (r : ByteArray × Int) : St := if r.2 = 0 then s.row r.1 else s.fail q (msgT qf nm x r.2)
/-- Operand by operand: a row, or a message. -/
def eachM (qf : ByteArray → ByteArray) (nm : ByteArray) (q : Bool) : List ByteArray → List (ByteArray × Int) → St → St
  | x :: l, r :: rs, s => eachM qf nm q l rs (stepE qf nm q s x r)
  | _, _, s => s
theorem each_snoc (qf : ByteArray → ByteArray) (nm : ByteArray) (q : Bool) (x : ByteArray) (r : ByteArray × Int) : ∀ (l : List ByteArray) (rs : List (ByteArray × Int)) (s : St), rs.length = l.length → eachM qf nm q (l ++ [x]) (rs ++ [r]) s = stepE qf nm q (eachM qf nm q l rs s) x r
  | [], [], s, _ => rfl
  | [], _ :: _, s, h => by simp at h
  | _ :: _, [], s, h => by simp at h
  | y :: l, z :: rs, s, h => each_snoc qf nm q x r l rs (stepE qf nm q s y z) (by simpa using h)
end Go.Proofs.YtknfhphhcnbndaaGreatDoor.Z
