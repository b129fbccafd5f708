/-
  A strings.Builder that a call has made itself: what WriteByte, WriteString and String do; and the tables that this stage's code reads. Conditions: at most 1000000000 bytes.
-/
import Derived.Test.YtiegibgllnojcaaDoorSDec
import Derived.Test.YtiegibgllnojcaaDoorSOne
import Derived.Test.YtiegibgllnojcaaDoorShelfB
import Derived.Shelf.Strings.BuilderK
import Derived.Lib.BufSteps
set_option linter.unusedVariables false
namespace Go.Proofs.YtiegibgllnojcaaDoor
open Go.RowKit

/-- A text of a list's bytes. -/
def txt (l : List UInt8) : ByteArray := ⟨l.toArray⟩
theorem txt_size (l : List UInt8) : (txt l).size = l.length := by show l.toArray.size = _; simp
theorem txt_append (a b : List UInt8) : txt a ++ txt b = txt (a ++ b) := by
  unfold txt
  rw [ByteArray.mk_append_mk]
theorem txt_list (l : List UInt8) : (txt l).data.toList = l := by simp [txt]

/-- The tables: powers of ten, lengths of months, names of months and of days. -/
structure STab (w : World) : Prop where
  pow : Pow w
  len : Tab w
  mon : ∀ k, k < 12 → w.cell? ⟨0, k, none⟩ = some (.string (txt (monName k)))
  day : ∀ k, k < 7 → w.cell? ⟨1, k, none⟩ = some (.string (txt (dayName k)))
theorem STab.keep {w w' : World} (h : STab w) (hb : Below w.heap.size w w') : STab w' :=
  ⟨h.pow.keep hb, h.len.keep hb, fun k hk => by rw [hb.cell (p := ⟨0, k, none⟩) (cell_lt (h.mon k hk))]; exact h.mon k hk, fun k hk => by rw [hb.cell (p := ⟨1, k, none⟩) (cell_lt (h.day k hk))]; exact h.day k hk⟩

/-- In w the builder at b, made behind W0, holds l; nothing of W0 has changed. -/
def Bld (W0 : World) (b : Nat) (l : List UInt8) (w : World) : Prop := Lib.IsBuilderF 46 5 W0.heap.size b (Lib.byteCells l) w ∧ Below W0.heap.size W0 w ∧ W0.heap.size ≤ w.heap.size

theorem at_keep {T e : TypeId} {B b : Nat} {p : Value} {bs : List Value} {w w' : World} (h : Lib.BuilderAtF T e B b p bs w) (hb : Below w.heap.size w w') : Lib.BuilderAtF T e B b p bs w' := by
  have hlt := h.lt
  obtain ⟨hB, v, hbk, hown, hne⟩ := h
  refine ⟨hB, v, (hb.block b hlt).trans hbk, ?_, hne⟩
  exact hown.kept (row := none) ⟨hb.os, hb.tape, hb.output, hb.size, fun k hk _ => hb.block k hk⟩ (by cases v.ownBlock <;> simp)
theorem Bld.keep {W0 : World} {b : Nat} {l : List UInt8} {w w' : World} (h : Bld W0 b l w) (hb : Below w.heap.size w w') : Bld W0 b l w' := by
  obtain ⟨h1, h2, h3⟩ := h
  refine ⟨?_, h2.trans (hb.mono h3), Nat.le_trans h3 hb.size⟩
  rcases h1 with h1 | h1
  · exact .inl (at_keep h1 hb)
  · exact .inr (at_keep h1 hb)

theorem Bld.made (W0 : World) : Bld W0 W0.heap.size [] (W0.alloc (.cells #[.pointer none, .slice none 0 0] 46)) := by
  refine ⟨.inl ⟨Nat.le_refl _, .slice none 0 0, ?_, World.ownsRowF_nil _ _ _ _, by simp [Value.ownBlock]⟩, (Below.refl _ _).alloc (Nat.le_refl _) _, by simp⟩
  exact heap_alloc_new _ _

theorem Bld.writeByte {W0 : World} {b : Nat} {l : List UInt8} {w : World} (h : Bld W0 b l w) (hl : l.length ≤ 1000000000) (c : UInt8) (n : Int) (hn : n = (c.toNat : Int)) :
    Calls Tryd.prog 20 #[.pointer (some ⟨b, 0, none⟩), .int .u8 n] w fun e w' => e = .returned .nilIface ∧ Bld W0 b (l ++ [c]) w' := by
  subst hn
  obtain ⟨h1, h2, h3⟩ := h
  refine (Any.Builder_WriteByte_k Tryd.laysB167 Tryd.Builder_Extra_B W0.heap.size b (Lib.byteCells l) (c.toNat : Int) w h1 (by rw [Lib.byteCells_length]; omega) h3).mono ?_
  rintro e w' ⟨rfl, hA, hb, _⟩
  refine ⟨rfl, .inr ?_, h2.trans hb, Nat.le_trans h3 hb.size⟩
  rw [Lib.byteCells_append]
  exact hA
theorem Bld.writeString {W0 : World} {b : Nat} {l : List UInt8} {w : World} (h : Bld W0 b l w) (hl : l.length ≤ 1000000000) (s : ByteArray) (hs : s.size ≤ 1000000000) :
    Calls Tryd.prog 21 #[.pointer (some ⟨b, 0, none⟩), .string s] w fun e w' => (∃ v, e = .returned v) ∧ Bld W0 b (l ++ s.data.toList) w' := by
  obtain ⟨h1, h2, h3⟩ := h
  refine (Any.Builder_WriteString_k Tryd.laysB166 Tryd.Builder_Extra_B W0.heap.size b (Lib.byteCells l) s w h1 (by rw [Lib.byteCells_length]; omega) h3).mono ?_
  rintro e w' ⟨rfl, hA, hb, _⟩
  refine ⟨⟨_, rfl⟩, .inr ?_, h2.trans hb, Nat.le_trans h3 hb.size⟩
  rw [Lib.byteCells_append]
  exact hA
theorem Bld.string {W0 : World} {b : Nat} {l : List UInt8} {w : World} (h : Bld W0 b l w) :
    Calls Tryd.prog 23 #[.pointer (some ⟨b, 0, none⟩)] w fun e w' => e = .returned (.string (txt l)) ∧ Below W0.heap.size W0 w' := by
  obtain ⟨h1, h2, h3⟩ := h
  refine (Tryd.Builder_String_any_k W0.heap.size b l w h1 h3).mono ?_
  rintro e w' ⟨rfl, _, hb, _⟩
  exact ⟨rfl, h2.trans hb⟩
end Go.Proofs.YtiegibgllnojcaaDoor
