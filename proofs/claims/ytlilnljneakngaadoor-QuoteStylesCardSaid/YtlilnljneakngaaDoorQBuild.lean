/-
  A strings.Builder that a call has made itself: what WriteByte, WriteString and String do. Conditions: at most 1000000000 bytes.
-/
import Derived.Test.YtlilnljneakngaaDoorQBetween
set_option linter.unusedVariables false
namespace Go.Proofs.YtlilnljneakngaaDoor
open Go.RowKit

/-- In w the builder at b, made behind W0, holds l; nothing of W0 has changed. -/
def Bld (W0 : World) (b : Nat) (l : Bytes) (w : World) : Prop := Lib.IsBuilderF 49 5 W0.heap.size b (Lib.byteCells l) w ∧ Below W0.heap.size W0 w ∧ W0.heap.size ≤ w.heap.size

theorem at_keep {T e : TypeId} {B b : Nat} {p : Value} {bs : List Value} {w w' : World} (h : Lib.BuilderAtF T e B b p bs w) (hb : Below w.heap.size w w') : Lib.BuilderAtF T e B b p bs w' := by
  have hlt := h.lt
  obtain ⟨hB, v, hbk, hown, hne⟩ := h
  refine ⟨hB, v, (hb.block b hlt).trans hbk, ?_, hne⟩
  exact hown.kept (row := none) ⟨hb.os, hb.tape, hb.output, hb.size, fun k hk _ => hb.block k hk⟩ (by cases v.ownBlock <;> simp)
theorem Bld.keep {W0 : World} {b : Nat} {l : Bytes} {w w' : World} (h : Bld W0 b l w) (hb : Below w.heap.size w w') : Bld W0 b l w' := by
  obtain ⟨h1, h2, h3⟩ := h
  refine ⟨?_, h2.trans (hb.mono h3), Nat.le_trans h3 hb.size⟩
  rcases h1 with h1 | h1
  · exact .inl (at_keep h1 hb)
  · exact .inr (at_keep h1 hb)
theorem Bld.tab {W0 : World} {b : Nat} {l : Bytes} {w : World} (h : Bld W0 b l w) (hT : Tab W0) : Tab w := hT.keep h.2.1

theorem Bld.made (W0 : World) : Bld W0 W0.heap.size [] (W0.alloc (.cells #[.pointer none, .slice none 0 0] 49)) := by
  refine ⟨.inl ⟨Nat.le_refl _, .slice none 0 0, ?_, World.ownsRowF_nil _ _ _ _, by simp [Value.ownBlock]⟩, (Below.refl _ _).alloc (Nat.le_refl _) _, by simp⟩
  exact heap_alloc_new _ _

theorem Bld.writeByte {W0 : World} {b : Nat} {l : Bytes} {w : World} (h : Bld W0 b l w) (hl : l.length ≤ 1000000000) (c : UInt8) (n : Int) (hn : n = (c.toNat : Int)) :
    Calls Tryd.prog 35 #[.pointer (some ⟨b, 0, none⟩), .int .u8 n] w fun e w' => e = .returned .nilIface ∧ Bld W0 b (l ++ [c]) w' := by
  subst hn
  obtain ⟨h1, h2, h3⟩ := h
  refine (Any.Builder_WriteByte_k Tryd.laysB167 Tryd.Builder_Extra_B W0.heap.size b (Lib.byteCells l) (c.toNat : Int) w h1 (by rw [Lib.byteCells_length]; omega) h3).mono ?_
  rintro e w' ⟨rfl, hA, hb, _⟩
  refine ⟨rfl, .inr ?_, h2.trans hb, Nat.le_trans h3 hb.size⟩
  rw [Lib.byteCells_append]
  exact hA
theorem Bld.writeString {W0 : World} {b : Nat} {l : Bytes} {w : World} (h : Bld W0 b l w) (hl : l.length ≤ 1000000000) (s : ByteArray) (hs : s.size ≤ 1000000000) :
    Calls Tryd.prog 33 #[.pointer (some ⟨b, 0, none⟩), .string s] w fun e w' => (∃ v, e = .returned v) ∧ Bld W0 b (l ++ L s) w' := by
  obtain ⟨h1, h2, h3⟩ := h
  refine (Any.Builder_WriteString_k Tryd.laysB166 Tryd.Builder_Extra_B W0.heap.size b (Lib.byteCells l) s w h1 (by rw [Lib.byteCells_length]; omega) h3).mono ?_
  rintro e w' ⟨rfl, hA, hb, _⟩
  refine ⟨⟨_, rfl⟩, .inr ?_, h2.trans hb, Nat.le_trans h3 hb.size⟩
  rw [Lib.byteCells_append]
  exact hA
theorem Bld.string {W0 : World} {b : Nat} {l : Bytes} {w : World} (h : Bld W0 b l w) :
    Calls Tryd.prog 36 #[.pointer (some ⟨b, 0, none⟩)] w fun e w' => e = .returned (.string (T l)) ∧ Below W0.heap.size W0 w' := by
  obtain ⟨h1, h2, h3⟩ := h
  refine (Tryd.Builder_String_any_k W0.heap.size b l w h1 h3).mono ?_
  rintro e w' ⟨rfl, _, hb, _⟩
  exact ⟨rfl, h2.trans hb⟩

theorem esc_len (b : UInt8) : (esc b).length ≤ 4 := by unfold esc; repeat' split
                                                       all_goals simp

set_option maxHeartbeats 1000000 in
set_option maxRecDepth 100000 in
theorem writeEscape_any {W0 : World} {b : Nat} {l : Bytes} {w : World} (h : Bld W0 b l w) (hl : l.length ≤ 900000000) (c : UInt8) :
    Calls Tryd.prog 34 #[.pointer (some ⟨b, 0, none⟩), .int .u8 (c.toNat : Int)] w fun e w' => e = .returned (.tuple #[]) ∧ Bld W0 b (l ++ esc c) w' := by
  have hc := c.toNat_lt
  obtain ⟨n, hn⟩ : ∃ n, c.toNat = n := ⟨_, rfl⟩
  have h1 := h.writeByte (by omega) 92 92 rfl
  by_cases h10 : n = 10
  · have he : esc c = [92] ++ [110] := by
      have : c = 10 := UInt8.toNat_inj.1 (by rw [hn, h10]; rfl)
      subst this; rfl
    rw [hn, h10]
    go_enter Tryd.func34, Tryd.ntmps34
    go_wp2_with fail
    refine h1.mono ?_
    rintro e w2 ⟨rfl, h2⟩
    go_wp2_with fail
    refine (h2.writeByte (by simp; omega) 110 110 rfl).mono ?_
    rintro e w3 ⟨rfl, h3⟩
    go_wp2_with fail
    go_end0
    refine ⟨rfl, ?_⟩
    rw [he, ← List.append_assoc]
    exact h3
  · by_cases h9 : n = 9
    · have he : esc c = [92] ++ [116] := by
        have : c = 9 := UInt8.toNat_inj.1 (by rw [hn, h9]; rfl)
        subst this; rfl
      rw [hn, h9]
      go_enter Tryd.func34, Tryd.ntmps34
      go_wp2_with fail
      refine h1.mono ?_
      rintro e w2 ⟨rfl, h2⟩
      go_wp2_with fail
      refine (h2.writeByte (by simp; omega) 116 116 rfl).mono ?_
      rintro e w3 ⟨rfl, h3⟩
      go_wp2_with fail
      go_end0
      refine ⟨rfl, ?_⟩
      rw [he, ← List.append_assoc]
      exact h3
    · have he : Hid (esc c = [92] ++ [48 + c / 64] ++ [48 + c / 8 % 8] ++ [48 + c % 8]) := Lib.hid (by
        unfold esc
        rw [if_neg (fun e => h10 (by rw [← hn, e]; rfl)), if_neg (fun e => h9 (by rw [← hn, e]; rfl))]
        rfl)
      have d1 : Hid ((48 + c / 64 : UInt8).toNat = 48 + n / 64) := Lib.hid (by
        rw [UInt8.toNat_add, UInt8.toNat_div, hn]; show (48 + n / 64) % 256 = _; omega)
      have d2 : Hid ((48 + c / 8 % 8 : UInt8).toNat = 48 + n / 8 % 8) := Lib.hid (by
        rw [UInt8.toNat_add, UInt8.toNat_mod, UInt8.toNat_div, hn]; show (48 + n / 8 % 8) % 256 = _; omega)
      have d3 : Hid ((48 + c % 8 : UInt8).toNat = 48 + n % 8) := Lib.hid (by
        rw [UInt8.toNat_add, UInt8.toNat_mod, hn]; show (48 + n % 8) % 256 = _; omega)
      have q1 : ((n : Int) == 10) = false := beq_eq_false_iff_ne.2 (by omega)
      have q2 : ((n : Int) == 9) = false := beq_eq_false_iff_ne.2 (by omega)
      rw [hn]
      go_enter Tryd.func34, Tryd.ntmps34
      go_wp2_with fail
      refine h1.mono ?_
      rintro e w2 ⟨rfl, h2⟩
      go_wp2_with fail
      refine (h2.writeByte (by simp; omega) (48 + c / 64) _ ?_).mono ?_
      · rw [d1.out]; omega
      rintro e w3 ⟨rfl, h3⟩
      go_wp2_with fail
      refine (h3.writeByte (by simp; omega) (48 + c / 8 % 8) _ ?_).mono ?_
      · rw [d2.out]; omega
      rintro e w4 ⟨rfl, h4⟩
      go_wp2_with fail
      refine (h4.writeByte (by simp; omega) (48 + c % 8) _ ?_).mono ?_
      · rw [d3.out]; omega
      rintro e w5 ⟨rfl, h5⟩
      go_wp2_with fail
      go_end0
      refine ⟨rfl, ?_⟩
      rw [he.out, ← List.append_assoc, ← List.append_assoc, ← List.append_assoc]
      exact h5
end Go.Proofs.YtlilnljneakngaaDoor
