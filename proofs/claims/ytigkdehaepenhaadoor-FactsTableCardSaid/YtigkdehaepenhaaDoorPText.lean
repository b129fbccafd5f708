/-
  What perm's Kind, lastLetter and Text return; a strings.Builder that a call has made itself. Conditions: the table of classes lies as its text lays it.
-/
import Derived.Test.YtigkdehaepenhaaDoorPMay
import Derived.Test.YtigkdehaepenhaaDoorShelfB
import Derived.Shelf.Strings.BuilderK
import Derived.Lib.BufSteps
set_option linter.unusedVariables false
namespace Go.Proofs.YtigkdehaepenhaaDoor.P
open Go.RowKit

/-- A text of a list's bytes. -/
def txt (l : List UInt8) : ByteArray := ⟨l.toArray⟩
theorem txt_size (l : List UInt8) : (txt l).size = l.length := by show l.toArray.size = _; simp
theorem txt_append (a b : List UInt8) : txt a ++ txt b = txt (a ++ b) := by
  unfold txt
  rw [ByteArray.mk_append_mk]
theorem txt_list (l : List UInt8) : (txt l).data.toList = l := by simp [txt]

/-- In w the builder at b, made behind W0, holds l; nothing of W0 has changed. -/
def Bld (W0 : World) (b : Nat) (l : List UInt8) (w : World) : Prop := Lib.IsBuilderF 70 5 W0.heap.size b (Lib.byteCells l) w ∧ Below W0.heap.size W0 w ∧ W0.heap.size ≤ w.heap.size
theorem at_keep {T e : TypeId} {B b : Nat} {p : Value} {bs : List Value} {w w' : World} (h : Lib.BuilderAtF T e B b p bs w) (hb : Below w.heap.size w w') : Lib.BuilderAtF T e B b p bs w' := by
  have hlt := h.lt
  obtain ⟨hB, v, hbk, hown, hne⟩ := h
  refine ⟨hB, v, (hb.block b hlt).trans hbk, ?_, hne⟩
  exact hown.kept (row := none) ⟨hb.os, hb.tape, hb.output, hb.size, fun k hk _ => hb.block k hk⟩ (by cases v.ownBlock <;> simp)
theorem Bld.keep {W0 : World} {b : Nat} {l : List UInt8} {w w' : World} (h : Bld W0 b l w) (hb : Below w.heap.size w w') : Bld W0 b l w' := by
  obtain ⟨h1, h2, h3⟩ := h
  refine ⟨?_, h2.trans (hb.mono h3), Nat.le_trans h3 hb.size⟩
  rcases h1 with h1 | h1
  · exact .inl (at_keep h1 hb)
  · exact .inr (at_keep h1 hb)
theorem Bld.made (W0 : World) : Bld W0 W0.heap.size [] (W0.alloc (.cells #[.pointer none, .slice none 0 0] 70)) := by
  refine ⟨.inl ⟨Nat.le_refl _, .slice none 0 0, ?_, World.ownsRowF_nil _ _ _ _, by simp [Value.ownBlock]⟩, (Below.refl _ _).alloc (Nat.le_refl _) _, by simp⟩
  exact heap_alloc_new _ _
/-- The four cells of a class's copy. -/
def CopyAt (k : Nat) (f s : Int) (x X : ByteArray) (w : World) : Prop := w.heap[k]? = some (.cells #[.int .i64 f, .int .i64 s, .string x, .string X] 94)
theorem Bld.writeString {W0 : World} {b : Nat} {l : List UInt8} {w : World} (h : Bld W0 b l w) (hl : l.length ≤ 1000000000) (s : ByteArray) (hs : s.size ≤ 1000000000) :
    Calls Tryd.prog 27 #[.pointer (some ⟨b, 0, none⟩), .string s] w fun e w' => (∃ v, e = .returned v) ∧ Bld W0 b (l ++ s.data.toList) w' ∧ ∀ k o, w.heap[k]? = some o → k ≠ b → (∀ c fz, o ≠ .cells c 5 fz) → w'.heap[k]? = some o := by
  obtain ⟨h1, h2, h3⟩ := h
  refine (Any.Builder_WriteString_k Tryd.laysB166 Tryd.Builder_Extra_B W0.heap.size b (Lib.byteCells l) s w h1 (by rw [Lib.byteCells_length]; omega) h3).mono ?_
  rintro e w' ⟨rfl, hA, hb, hk⟩
  refine ⟨⟨_, rfl⟩, ⟨.inr ?_, h2.trans hb, Nat.le_trans h3 hb.size⟩, fun k o h n c => hk k o h (fun e => n (Option.some.inj e)) c⟩
  rw [Lib.byteCells_append]
  exact hA
theorem Bld.string {W0 : World} {b : Nat} {l : List UInt8} {w : World} (h : Bld W0 b l w) :
    Calls Tryd.prog 28 #[.pointer (some ⟨b, 0, none⟩)] w fun e w' => e = .returned (.string (txt l)) ∧ Below W0.heap.size W0 w' := by
  obtain ⟨h1, h2, h3⟩ := h
  refine (Any.Builder_String_any_k Tryd.laysB169 Tryd.Builder_Extra_B W0.heap.size b l w h1 h3).mono ?_
  rintro e w' ⟨rfl, _, hb, _⟩
  exact ⟨rfl, h2.trans hb⟩

def kindL (k : Int) : List UInt8 := if k = 1 then [45] else if k = 2 then [100] else if k = 3 then [108] else [63]
def lastL (m : Int) (f s : Nat) (x X : UInt8) : UInt8 := if bitB m s then (if bitB m f then x else X) else (if bitB m f then 120 else 45)
def clsL (m : Int) (f s : Nat) (x X : UInt8) : List UInt8 := [if bitB m (f + 2) then 114 else 45, if bitB m (f + 1) then 119 else 45, lastL m f s x X]
def textP (k m : Int) : List UInt8 := kindL k ++ clsL m 6 11 115 83 ++ clsL m 3 10 115 83 ++ clsL m 0 9 116 84

set_option maxHeartbeats 1000000 in
theorem kind_any (n : Nv) (w : World) :
    Calls Tryd.prog 49 #[nodeV n] w fun e w' => e = .returned (.string (txt (kindL n.kind))) ∧ Below w.heap.size w w' := by
  unfold nodeV
  by_cases h1 : n.kind = 1
  · have HR := Lib.hid (show kindL n.kind = [45] by unfold kindL; rw [if_pos h1])
    have t1 : (n.kind == 1) = true := beq_iff_eq.2 h1
    clear h1
    go_enter Tryd.func49, Tryd.ntmps49
    go_wp2
    go_ret
    exact ⟨by rw [HR.out]; rfl, by (repeat (first | (with_reducible apply Below.setCell (hp := ?_)) | (with_reducible apply Below.alloc (hB := ?_)) | (with_reducible exact Below.refl _ _) | (simp; done) | omega))⟩
  · have t1 : (n.kind == 1) = false := beq_eq_false_iff_ne.2 h1
    by_cases h2 : n.kind = 2
    · have HR := Lib.hid (show kindL n.kind = [100] by unfold kindL; rw [if_neg h1, if_pos h2])
      have t2 : (n.kind == 2) = true := beq_iff_eq.2 h2
      clear h1 h2
      go_enter Tryd.func49, Tryd.ntmps49
      go_wp2
      go_ret
      exact ⟨by rw [HR.out]; rfl, by (repeat (first | (with_reducible apply Below.setCell (hp := ?_)) | (with_reducible apply Below.alloc (hB := ?_)) | (with_reducible exact Below.refl _ _) | (simp; done) | omega))⟩
    · have t2 : (n.kind == 2) = false := beq_eq_false_iff_ne.2 h2
      by_cases h3 : n.kind = 3
      · have HR := Lib.hid (show kindL n.kind = [108] by unfold kindL; rw [if_neg h1, if_neg h2, if_pos h3])
        have t3 : (n.kind == 3) = true := beq_iff_eq.2 h3
        clear h1 h2 h3
        go_enter Tryd.func49, Tryd.ntmps49
        go_wp2
        go_ret
        exact ⟨by rw [HR.out]; rfl, by (repeat (first | (with_reducible apply Below.setCell (hp := ?_)) | (with_reducible apply Below.alloc (hB := ?_)) | (with_reducible exact Below.refl _ _) | (simp; done) | omega))⟩
      · have HR := Lib.hid (show kindL n.kind = [63] by unfold kindL; rw [if_neg h1, if_neg h2, if_neg h3])
        have t3 : (n.kind == 3) = false := beq_eq_false_iff_ne.2 h3
        clear h1 h2 h3
        go_enter Tryd.func49, Tryd.ntmps49
        go_wp2
        go_ret
        exact ⟨by rw [HR.out]; rfl, by (repeat (first | (with_reducible apply Below.setCell (hp := ?_)) | (with_reducible apply Below.alloc (hB := ?_)) | (with_reducible exact Below.refl _ _) | (simp; done) | omega))⟩

set_option maxHeartbeats 1000000 in
theorem last_any (m : Int) (f s : Nat) (x X : UInt8) (w : World) (hf : f ≤ 60) (hs : s ≤ 60) :
    Calls Tryd.prog 52 #[.int .i64 m, .agg #[.int .i64 (f : Int), .int .i64 (s : Int), .string ⟨#[x]⟩, .string ⟨#[X]⟩]] w fun e w' => e = .returned (.string (txt [lastL m f s x X])) ∧ Below w.heap.size w w' := by
  have S1 := Lib.hid (fun w' => pset_any m f w' (by omega))
  have S2 := Lib.hid (fun w' => pset_any m s w' (by omega))
  obtain ⟨p, hp⟩ : ∃ p, bitB m f = p := ⟨_, rfl⟩
  cases hq : bitB m s
  · have HL := Lib.hid (show txt [lastL m f s x X] = if p then ⟨#[120]⟩ else ⟨#[45]⟩ by unfold lastL; rw [hq, hp]; cases p <;> rfl)
    rw [hp] at S1
    rw [hq] at S2
    clear hp hq
    cases p
    all_goals (
      go_enter Tryd.func52, Tryd.ntmps52
      go_wp2_with fail
      refine (S1.out _).mono ?_
      rintro e w' ⟨rfl, rfl⟩
      go_wp2_with fail
      refine (S2.out _).mono ?_
      rintro e w' ⟨rfl, rfl⟩
      go_wp2_with fail
      refine (letter_any _ _ _ _).mono ?_
      rintro e w' ⟨rfl, rfl⟩
      go_wp2_with fail
      go_ret
      exact ⟨by rw [HL.out]; rfl, by (repeat (first | (with_reducible apply Below.setCell (hp := ?_)) | (with_reducible apply Below.alloc (hB := ?_)) | (with_reducible exact Below.refl _ _) | (simp; done) | omega))⟩)
  · have HL := Lib.hid (show txt [lastL m f s x X] = if p then ⟨#[x]⟩ else ⟨#[X]⟩ by unfold lastL; rw [hq, hp]; cases p <;> rfl)
    rw [hp] at S1
    rw [hq] at S2
    clear hp hq
    cases p
    all_goals (
      go_enter Tryd.func52, Tryd.ntmps52
      go_wp2_with fail
      refine (S1.out _).mono ?_
      rintro e w' ⟨rfl, rfl⟩
      go_wp2_with fail
      refine (S2.out _).mono ?_
      rintro e w' ⟨rfl, rfl⟩
      go_wp2_with fail
      refine (letter_any _ _ _ _).mono ?_
      rintro e w' ⟨rfl, rfl⟩
      go_wp2_with fail
      go_ret
      exact ⟨by rw [HL.out]; rfl, by (repeat (first | (with_reducible apply Below.setCell (hp := ?_)) | (with_reducible apply Below.alloc (hB := ?_)) | (with_reducible exact Below.refl _ _) | (simp; done) | omega))⟩)
end Go.Proofs.YtigkdehaepenhaaDoor.P
