/-
  Arguments read, by a model: options, operands, what is to blame; that bits are read as a whole. Conditions: each fact's own.
-/
import Derived.Lib.RuneCountTail
set_option linter.unusedVariables false
namespace Go.Proofs.Ytboolblccahadaa.A

structure Sp where
  letter : Int
  long : ByteArray
  value : Bool
structure Op where
  letter : Int
  value : ByteArray
inductive Rd where
  | bad (a : ByteArray)
  | ok (l : List Op) (rest : List ByteArray)
def noSp : Sp := ⟨0, ByteArray.empty, false⟩
def Rd.opts (o : List Op) : Rd → Rd
  | .bad a => .bad a
  | .ok l r => .ok (o ++ l) r
def Rd.operand (a : ByteArray) : Rd → Rd
  | .bad b => .bad b
  | .ok l r => .ok l (a :: r)

/-! ### texts -/
def listB (s : ByteArray) : List UInt8 := s.data.toList
def byL (l : List UInt8) : ByteArray := ⟨l.toArray⟩
def beginsL (s t : List UInt8) : Bool := t.isPrefixOf s
/-- Up to an equals sign. -/
def nameL (l : List UInt8) : List UInt8 := l.takeWhile fun b => b != 61
def restL (l : List UInt8) : List UInt8 := l.dropWhile fun b => b != 61

/-! ### what is meant -/
/-- The first place from k on at which a test says yes. -/
def findK (p : Sp → Bool) : List Sp → Nat → Option Nat
  | [], _ => none
  | s :: l, k => if p s = true then some k else findK p l (k + 1)
def startsB (name : List UInt8) (s : Sp) : Bool := !(listB s.long).isEmpty && beginsL (listB s.long) name
def wholeB (name : List UInt8) (s : Sp) : Bool := (listB s.long == name) && !name.isEmpty
def meantM (specs : List Sp) (name : List UInt8) : Option Nat :=
  match findK (wholeB name) specs 0 with
  | some k => some k
  | none => if specs.countP (startsB name) = 1 then findK (startsB name) specs 0 else none
def letterM (specs : List Sp) (c : UInt8) : Option Nat := findK (fun s => decide (s.letter = (c.toNat : Int))) specs 0
def spAt (specs : List Sp) (k : Nat) : Sp := specs.getD k noSp

/-! ### letters -/
/-- What letters give: wrong, or options and whether the last one, of a letter, takes the next argument. -/
inductive Lt where
  | bad
  | all (l : List Op)
  | next (l : List Op) (c : Int)
def Lt.more (o : Op) : Lt → Lt
  | .bad => .bad
  | .all l => .all (o :: l)
  | .next l c => .next (o :: l) c
def lettersM (specs : List Sp) : List UInt8 → Lt
  | [] => .all []
  | c :: r => match letterM specs c with
    | none => .bad
    | some k => if (spAt specs k).value = true then (match r with
        | [] => .next [] (c.toNat : Int)
        | _ :: _ => .all [⟨(c.toNat : Int), byL r⟩]) else (lettersM specs r).more ⟨(c.toNat : Int), ByteArray.empty⟩

/-! ### arguments -/
/-- What one argument is. -/
inductive Kd where
  | stop
  | operand
  | bad
  | opts (l : List Op)
  | next (l : List Op) (c : Int)
def longM (specs : List Sp) (l : List UInt8) : Kd :=
  match meantM specs (nameL l) with
  | none => .bad
  | some k => match restL l with
    | [] => if (spAt specs k).value = true then .next [] (spAt specs k).letter else .opts [⟨(spAt specs k).letter, ByteArray.empty⟩]
    | _ :: v => if (spAt specs k).value = true then .opts [⟨(spAt specs k).letter, byL v⟩] else .bad
def kindL (specs : List Sp) (l : List UInt8) : Kd :=
  match l with
  | [] => .operand
  | [_] => .operand
  | b :: c :: r => if b ≠ 45 then .operand else if c = 45 then (if r = [] then .stop else longM specs r) else (match lettersM specs (c :: r) with
    | .bad => .bad
    | .all l => .opts l
    | .next l c => .next l c)
def kindA (specs : List Sp) (a : ByteArray) : Kd := kindL specs (listB a)
def readM (specs : List Sp) : List ByteArray → Rd
  | [] => .ok [] []
  | [a] => match kindA specs a with
    | .stop => .ok [] []
    | .operand => .ok [] [a]
    | .bad => .bad a
    | .opts l => .ok l []
    | .next _ _ => .bad a
  | a :: b :: r => match kindA specs a with
    | .stop => .ok [] (b :: r)
    | .operand => (readM specs (b :: r)).operand a
    | .bad => .bad a
    | .opts l => (readM specs (b :: r)).opts l
    | .next l c => (readM specs r).opts (l ++ [⟨c, b⟩])
theorem read_cons (specs : List Sp) (a : ByteArray) (r : List ByteArray) : readM specs (a :: r) = match kindA specs a with
    | .stop => .ok [] r
    | .operand => (readM specs r).operand a
    | .bad => .bad a
    | .opts l => (readM specs r).opts l
    | .next l c => match r with
      | [] => .bad a
      | b :: r' => (readM specs r').opts (l ++ [⟨c, b⟩]) := by
  cases r with
  | nil =>
    unfold readM
    cases kindA specs a <;> simp [Rd.operand, Rd.opts]
  | cons b r =>
    rw [readM]
theorem kind_stop {specs : List Sp} {a : ByteArray} (h : kindA specs a = .stop) : listB a = [45, 45] := by
  unfold kindA kindL at h
  split at h
  · cases h
  · cases h
  · rename_i b c r e
    rw [e]
    split at h
    · cases h
    · rename_i h1
      split at h
      · rename_i h2
        split at h
        · rename_i h3
          rw [h2, h3, Classical.not_not.1 h1]
        · unfold longM at h
          split at h
          · cases h
          · split at h
            · split at h <;> cases h
            · split at h <;> cases h
      · split at h <;> cases h
theorem stop_kind {specs : List Sp} {a : ByteArray} (h : listB a = [45, 45]) : kindA specs a = .stop := by
  unfold kindA kindL
  rw [h]
  rfl
theorem kind_plain {specs : List Sp} {a : ByteArray} (h : (listB a).head? ≠ some 45) : kindA specs a = .operand := by
  unfold kindA kindL
  split
  · rfl
  · rfl
  · rename_i b c r e
    rw [e] at h
    rw [if_pos (fun z => h (by rw [z]; rfl))]

/-! ### bits -/
theorem read_bits (specs : List Sp) (x : ByteArray) (hx : kindA specs x = .operand) (b : List ByteArray) {m : List Op} {q : List ByteArray} (hb : readM specs b = .ok m q) : ∀ (n : Nat) (a : List ByteArray) (l : List Op) (p : List ByteArray), a.length ≤ n → (∀ y ∈ a, listB y ≠ [45, 45]) → readM specs a = .ok l p →
    readM specs (a ++ x :: b) = .ok (l ++ m) (p ++ x :: q)
  | _, [], l, p, _, _, h => by
    simp only [readM, Rd.ok.injEq] at h
    obtain ⟨rfl, rfl⟩ := h
    rw [List.nil_append, read_cons, hx]
    show (readM specs b).operand x = _
    rw [hb]
    rfl
  | 0, y :: a, l, p, hn, _, _ => by simp at hn
  | n + 1, y :: a, l, p, hn, hs, h => by
    rw [read_cons] at h
    rw [List.cons_append, read_cons]
    have hs' : ∀ y ∈ a, listB y ≠ [45, 45] := fun z hz => hs z (List.mem_cons_of_mem _ hz)
    have hy := hs y List.mem_cons_self
    have hl : a.length ≤ n := by simpa using hn
    cases hk : kindA specs y with
    | stop => exact absurd (kind_stop hk) hy
    | operand =>
      rw [hk] at h
      cases hr : readM specs a with
      | bad z => rw [hr] at h; cases h
      | ok l' p' =>
        rw [hr] at h
        simp only [Rd.operand, Rd.ok.injEq] at h
        obtain ⟨rfl, rfl⟩ := h
        have ih := read_bits specs x hx b hb n a l' p' hl hs' hr
        show (readM specs (a ++ x :: b)).operand y = _
        rw [ih]
        rfl
    | bad => rw [hk] at h; cases h
    | opts o =>
      rw [hk] at h
      cases hr : readM specs a with
      | bad z => rw [hr] at h; cases h
      | ok l' p' =>
        rw [hr] at h
        simp only [Rd.opts, Rd.ok.injEq] at h
        obtain ⟨rfl, rfl⟩ := h
        have ih := read_bits specs x hx b hb n a l' p' hl hs' hr
        show (readM specs (a ++ x :: b)).opts o = _
        rw [ih]
        simp only [Rd.opts, List.append_assoc]
    | next o c =>
      rw [hk] at h
      cases a with
      | nil => cases h
      | cons v a =>
        have h' : (readM specs a).opts (o ++ [⟨c, v⟩]) = .ok l p := h
        cases hr : readM specs a with
        | bad z => rw [hr] at h'; cases h'
        | ok l' p' =>
          rw [hr] at h'
          simp only [Rd.opts, Rd.ok.injEq] at h'
          obtain ⟨rfl, rfl⟩ := h'
          have ih := read_bits specs x hx b hb n a l' p' (by simp at hl; omega) (fun z hz => hs' z (List.mem_cons_of_mem _ hz)) hr
          show (readM specs (a ++ x :: b)).opts (o ++ [⟨c, v⟩]) = _
          rw [ih]
          simp only [Rd.opts, List.append_assoc]
theorem read_plain (specs : List Sp) : ∀ a : List ByteArray, (∀ y ∈ a, (listB y).head? ≠ some 45) → readM specs a = .ok [] a
  | [], _ => by rw [readM]
  | y :: a, h => by
    rw [read_cons, kind_plain (h y List.mem_cons_self)]
    show (readM specs a).operand y = _
    rw [read_plain specs a (fun z hz => h z (List.mem_cons_of_mem _ hz))]
    rfl
theorem read_stop (specs : List Sp) (y : ByteArray) (hy : listB y = [45, 45]) (a : List ByteArray) : readM specs (y :: a) = .ok [] a := by
  rw [read_cons, stop_kind hy]

/-! ### the last one of some letters -/
def lastM (l : List Op) (letters : List UInt8) : Option Op := l.reverse.find? fun o => letters.any fun c => decide (o.letter = (c.toNat : Int))
theorem last_snoc (l : List Op) (o : Op) (letters : List UInt8) : lastM (l ++ [o]) letters = if letters.any (fun c => decide (o.letter = (c.toNat : Int))) = true then some o else lastM l letters := by
  unfold lastM
  rw [List.reverse_append, List.reverse_singleton, List.singleton_append, List.find?_cons]
  split
  · rename_i h; rw [h]; rfl
  · rename_i h; rw [h]; rfl
end Go.Proofs.Ytboolblccahadaa.A
