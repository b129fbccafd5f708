/-
  What the reference's Of and Cut and width.Cut return: the sum of the characters' widths; the text up to the place where it is cut. Conditions: the text has at most 1000000 bytes; the package's table lies as its text lays it.
-/
import Derived.Test.YtjggcioddgoidaaDoorWOf
import Derived.Test.YtjggcioddgoidaaDoorWNext
namespace Go.Proofs.YtjggcioddgoidaaDoor
open Go.RowKit

/-- The character at a place, as the reference reads it. -/
theorem next_at (s : ByteArray) (pos : Nat) (w : World) (hs : s.size ≤ 1000000) (hp : pos < s.size) :
    Calls Tryd.prog 15 #[.string (s.extract pos s.size)] w fun e w' => e = .returned (.tuple #[.int .i64 (nextR (s.extract pos s.size)), .int .i64 ((Utf8.decode s pos).2 : Nat)]) ∧ w = w' := by
  have hz := Lib.tail_size s pos
  have h := next_any (s.extract pos s.size) w (by omega) (by omega)
  rw [Lib.tail_decode] at h
  exact h
theorem next_at_width (s : ByteArray) (pos : Nat) : runeW (nextR (s.extract pos s.size)) = runeW ((Utf8.decode s pos).1 : Nat) := by
  rw [nextR_width, Lib.tail_decode]
  rfl

def RefOfRel (s : ByteArray) (w : World) (n i : Value) (w' : World) : Prop :=
  ∃ (pos : Nat) (acc : Int), pos ≤ s.size ∧ i = .int .i64 (pos : Int) ∧ n = .int .i64 acc ∧ acc + wd s pos = wd s 0 ∧ 0 ≤ acc ∧ Below w.heap.size w w'

set_option maxHeartbeats 1000000 in
theorem refOf_any (s : ByteArray) (w : World) (hs : s.size ≤ 1000000) :
    Calls Tryd.prog 11 #[.string s] w fun e w' => e = .returned (.int .i64 (wd s 0)) ∧ Below w.heap.size w w' := by
  have HW := Lib.hid (wd_bd s 0)
  go_enter Tryd.func11, Tryd.ntmps11
  go_wp2
  go_loopw [3, 4] (RefOfRel s w) (fun _ i _ => s.size - (intOf i).toNat)
  case atStart => exact ⟨0, 0, Nat.zero_le _, rfl, rfl, by omega, by omega, Below.refl _ _⟩
  case round =>
    obtain ⟨pos, acc, hp, rfl, rfl, hacc, h0, hb⟩ := hrel
    have HB := Lib.hid hb
    have HA := Lib.hid hacc
    clear hb hacc
    by_cases hlt : pos < s.size
    · go_wp2_with fail
      refine (next_at s pos _ hs hlt).mono ?_
      rintro e w2 ⟨rfl, rfl⟩
      have HN := Lib.hid (next_at_width s pos)
      generalize nextR (s.extract pos s.size) = R at *
      have hwp := Lib.decode_width_pos s pos hlt
      have hle := decode_len s pos hlt
      have HS := Lib.hid (wd_step s pos hlt)
      have hrb := runeW_bd R
      have hub : acc ≤ 2000000 := by
        have := HA.out
        have := HW.out
        have := wd_bd s pos
        omega
      go_wp2_with fail
      refine (refW_any _ _).mono ?_
      rintro e w2 ⟨rfl, hb2⟩
      have HB2 := Lib.hid (below_two HB.out hb2)
      clear hb2
      go_wp2_with fail
      go_roundw
      case rel =>
        refine ⟨pos + (Utf8.decode s pos).2, _, hle, by go_num, rfl, ?_, by omega, HB2.out⟩
        have := HA.out
        have := HS.out
        have := HN.out
        omega
      case measure => simp [intOf]; omega
    · go_wp2
      go_ret
      exact ⟨ret_int (by have := HA.out; rw [wd_end s pos hlt] at this; omega), HB.out⟩

theorem ret_str {a b : ByteArray} (h : a = b) : Ending.returned (.string a) = .returned (.string b) := by rw [h]
theorem whole_text (s : ByteArray) : s.extract 0 s.size = s := by
  cases s with
  | mk d => exact ByteArray.ext (by simp [ByteArray.data_extract, ByteArray.size])

def RefCutRel (s : ByteArray) (most : Int) (w : World) (n i : Value) (w' : World) : Prop :=
  ∃ (pos : Nat) (acc : Int), pos ≤ s.size ∧ i = .int .i64 (pos : Int) ∧ n = .int .i64 acc ∧ cutAt s most pos acc = cutP s most ∧ acc + wd s pos = wd s 0 ∧ 0 ≤ acc ∧ Below w.heap.size w w'

set_option maxHeartbeats 1000000 in
theorem refCut_any (s : ByteArray) (most : Int) (w : World) (hs : s.size ≤ 1000000) :
    Calls Tryd.prog 13 #[.string s, .int .i64 most] w fun e w' => e = .returned (.string (s.extract 0 (cutP s most))) ∧ Below w.heap.size w w' := by
  have HW := Lib.hid (wd_bd s 0)
  go_enter Tryd.func13, Tryd.ntmps13
  go_wp2
  go_loopw [5, 6] (RefCutRel s most w) (fun _ i _ => s.size - (intOf i).toNat)
  case atStart => exact ⟨0, 0, Nat.zero_le _, rfl, rfl, rfl, by omega, by omega, Below.refl _ _⟩
  case round =>
    obtain ⟨pos, acc, hp, rfl, rfl, hcut, hacc, h0, hb⟩ := hrel
    have HB := Lib.hid hb
    have HA := Lib.hid hacc
    have HC := Lib.hid hcut
    clear hb hacc hcut
    by_cases hlt : pos < s.size
    · go_wp2_with fail
      refine (next_at s pos _ hs hlt).mono ?_
      rintro e w2 ⟨rfl, rfl⟩
      have HN := Lib.hid (next_at_width s pos)
      generalize nextR (s.extract pos s.size) = R at *
      have hwp := Lib.decode_width_pos s pos hlt
      have hle := decode_len s pos hlt
      have HS := Lib.hid (wd_step s pos hlt)
      have hrb := runeW_bd R
      have hub : acc ≤ 2000000 := by
        have := HA.out
        have := HW.out
        have := wd_bd s pos
        omega
      go_wp2_with fail
      refine (refW_any _ _).mono ?_
      rintro e w2 ⟨rfl, hb2⟩
      have HB2 := Lib.hid (below_two HB.out hb2)
      clear hb2
      by_cases hm : most < acc + runeW R
      · go_wp2_with fail
        go_ret
        exact ⟨ret_str (by rw [← HC.out, cutAt_stop s most pos acc hlt (by rw [← HN.out]; exact hm)]), HB2.out⟩
      · go_wp2_with fail
        go_roundw
        case rel =>
          refine ⟨pos + (Utf8.decode s pos).2, _, hle, by go_num, rfl, ?_, ?_, by omega, HB2.out⟩
          · rw [← HC.out, cutAt_step s most pos acc hlt (by rw [← HN.out]; omega), HN.out]
          · have := HA.out
            have := HS.out
            have := HN.out
            omega
        case measure => simp [intOf]; omega
    · go_wp2
      go_ret
      exact ⟨ret_str (by rw [← HC.out, cutAt_end s most pos acc hlt, whole_text]), HB.out⟩

def CutRel (s : ByteArray) (most : Int) (w : World) (n : Value) (w' : World) : Prop :=
  ∃ (pos : Nat) (acc : Int), w'.heap[w.heap.size]? = some (.stringIter s pos) ∧ pos ≤ s.size ∧ n = .int .i64 acc ∧ cutAt s most pos acc = cutP s most ∧ acc + wd s pos = wd s 0 ∧ 0 ≤ acc ∧ Below w.heap.size w w'

set_option maxHeartbeats 1000000 in
theorem cut_any (s : ByteArray) (most : Int) (w : World) (hs : s.size ≤ 1000000) (ht : Tab w) :
    Calls Tryd.prog 12 #[.string s, .int .i64 most] w fun e w' => e = .returned (.string (s.extract 0 (cutP s most))) ∧ Below w.heap.size w w' := by
  have HT := Lib.hid ht
  have HW := Lib.hid (wd_bd s 0)
  clear ht
  go_enter Tryd.func12, Tryd.ntmps12
  go_wp2
  go_loopw [5] (CutRel s most w) (fun _ w' => s.size - w'.iterPos w.heap.size)
  case atStart => exact ⟨0, 0, World.iter_heap w s 0, Nat.zero_le _, rfl, rfl, by omega, by omega, (Below.refl _ _).alloc (Nat.le_refl _) _⟩
  case round =>
    obtain ⟨pos, acc, hk, hp, rfl, hcut, hacc, h0, hb⟩ := hrel
    have HK := Lib.hid hk
    have HB := Lib.hid hb
    have HA := Lib.hid hacc
    have HC := Lib.hid hcut
    by_cases hlt : pos < s.size
    · have hnx : ∀ ty, (Instr.next (.pointer (some ⟨w.heap.size, 0, none⟩)) true ty).run Tryd.prog wr = _ := fun ty => Lib.run_next_any_at wr _ s pos ty hk hlt
      clear hk hb hacc hcut
      go_wp2_with fail
      refine (rune_any _ _ (HT.out.keep (Lib.below_iterAt HB.out (Nat.le_refl _) s (pos + (Utf8.decode s pos).2)))).mono ?_
      rintro e w2 ⟨rfl, hb2⟩
      have HR := Lib.hid (iter_round HK.out HB.out hb2)
      have HS := Lib.hid (wd_step s pos hlt)
      have hwp := Lib.decode_width_pos s pos hlt
      have hle := decode_len s pos hlt
      have hrb := runeW_bd (Utf8.decode s pos).1
      have hub : acc ≤ 2000000 := by
        have := HA.out
        have := HW.out
        have := wd_bd s pos
        omega
      clear hb2 hnx
      by_cases hm : most < acc + runeW (Utf8.decode s pos).1
      · go_wp2_with fail
        go_ret
        exact ⟨ret_str (by rw [← HC.out, cutAt_stop s most pos acc hlt hm]), HR.out.2⟩
      · go_wp2_with fail
        go_roundw
        case rel =>
          refine ⟨pos + (Utf8.decode s pos).2, _, HR.out.1, hle, rfl, ?_, ?_, ?_, HR.out.2⟩
          · rw [← HC.out, cutAt_step s most pos acc hlt (by omega)]
          · have := HA.out
            have := HS.out
            omega
          · omega
        case measure =>
          rw [iterPos_at HR.out.1, iterPos_at HK.out]
          omega
    · have hnx : ∀ ty, (Instr.next (.pointer (some ⟨w.heap.size, 0, none⟩)) true ty).run Tryd.prog wr = _ := fun ty => Lib.run_next_end_at wr _ s pos ty hk hlt
      clear hk hb hacc hcut
      go_wp2
      go_ret
      exact ⟨ret_str (by rw [← HC.out, cutAt_end s most pos acc hlt, whole_text]), HB.out⟩
end Go.Proofs.YtjggcioddgoidaaDoor
