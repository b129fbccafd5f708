/-
  What the reference's Of returns: the sum of the characters' widths. Conditions: the text has at most 1000000 bytes; the package's table lies as its text lays it.
-/
import Derived.Test.YtemnbleacjpfcaaDoorWOf
import Derived.Test.YtemnbleacjpfcaaDoorWNext
namespace Go.Proofs.YtemnbleacjpfcaaDoor.W
open Go.RowKit

/-- The character at a place, as the reference reads it. -/
theorem next_at (s : ByteArray) (pos : Nat) (w : World) (hs : s.size ≤ 1000000) (hp : pos < s.size) :
    Calls Tryd.prog 29 #[.string (s.extract pos s.size)] w fun e w' => e = .returned (.tuple #[.int .i64 (nextR (s.extract pos s.size)), .int .i64 ((Utf8.decode s pos).2 : Nat)]) ∧ w = w' := by
  have hz := Lib.tail_size s pos
  have h := next_any (s.extract pos s.size) w (by omega) (by omega)
  rw [Lib.tail_decode] at h
  exact h
theorem next_at_width (s : ByteArray) (pos : Nat) : runeW (nextR (s.extract pos s.size)) = runeW ((Utf8.decode s pos).1 : Nat) := by
  rw [nextR_width, Lib.tail_decode]
  rfl

def RefOfRel (s : ByteArray) (w : World) (n i : Value) (w' : World) : Prop :=
  ∃ (pos : Nat) (acc : Int), pos ≤ s.size ∧ i = .int .i64 (pos : Int) ∧ n = .int .i64 acc ∧ acc + wd s pos = wd s 0 ∧ 0 ≤ acc ∧ Below w.heap.size w w'

set_option maxHeartbeats 1000000 in
theorem refOf_any (s : ByteArray) (w : World) (hs : s.size ≤ 1000000) :
    Calls Tryd.prog 19 #[.string s] w fun e w' => e = .returned (.int .i64 (wd s 0)) ∧ Below w.heap.size w w' := by
  have HW := Lib.hid (wd_bd s 0)
  go_enter Tryd.func19, Tryd.ntmps19
  go_wp2
  go_loopw [3, 4] (RefOfRel s w) (fun _ i _ => s.size - (intOf i).toNat)
  case atStart => exact ⟨0, 0, Nat.zero_le _, rfl, rfl, by omega, by omega, Below.refl _ _⟩
  case round =>
    obtain ⟨pos, acc, hp, rfl, rfl, hacc, h0, hb⟩ := hrel
    have HB := Lib.hid hb
    have HA := Lib.hid hacc
    clear hb hacc
    by_cases hlt : pos < s.size
    · go_wp2_with fail
      refine (next_at s pos _ hs hlt).mono ?_
      rintro e w2 ⟨rfl, rfl⟩
      have HN := Lib.hid (next_at_width s pos)
      generalize nextR (s.extract pos s.size) = R at *
      have hwp := Lib.decode_width_pos s pos hlt
      have hle := decode_len s pos hlt
      have HS := Lib.hid (wd_step s pos hlt)
      have hrb := runeW_bd R
      have hub : acc ≤ 2000000 := by
        have := HA.out
        have := HW.out
        have := wd_bd s pos
        omega
      go_wp2_with fail
      refine (refW_any _ _).mono ?_
      rintro e w2 ⟨rfl, hb2⟩
      have HB2 := Lib.hid (below_two HB.out hb2)
      clear hb2
      go_wp2_with fail
      go_roundw
      case rel =>
        refine ⟨pos + (Utf8.decode s pos).2, _, hle, by go_num, rfl, ?_, by omega, HB2.out⟩
        have := HA.out
        have := HS.out
        have := HN.out
        omega
      case measure => simp [intOf]; omega
    · go_wp2
      go_ret
      exact ⟨ret_int (by have := HA.out; rw [wd_end s pos hlt] at this; omega), HB.out⟩

theorem ret_str {a b : ByteArray} (h : a = b) : Ending.returned (.string a) = .returned (.string b) := by rw [h]
theorem whole_text (s : ByteArray) : s.extract 0 s.size = s := by
  cases s with
  | mk d => exact ByteArray.ext (by simp [ByteArray.data_extract, ByteArray.size])
end Go.Proofs.YtemnbleacjpfcaaDoor.W
