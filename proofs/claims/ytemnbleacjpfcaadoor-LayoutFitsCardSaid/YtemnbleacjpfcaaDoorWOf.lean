/-
  What width.Of and the law's awake return: the sum of the characters' widths; true. Conditions: the text has at most 1000000 bytes; the package's table lies as its text lays it.
-/
import Derived.Test.YtemnbleacjpfcaaDoorWRune
namespace Go.Proofs.YtemnbleacjpfcaaDoor.W
open Go.RowKit

def OfRel (s : ByteArray) (w : World) (n : Value) (w' : World) : Prop :=
  ∃ (pos : Nat) (acc : Int), w'.heap[w.heap.size]? = some (.stringIter s pos) ∧ pos ≤ s.size ∧ n = .int .i64 acc ∧ acc + wd s pos = wd s 0 ∧ 0 ≤ acc ∧ Below w.heap.size w w'

theorem iterPos_at {w : World} {k : Nat} {s : ByteArray} {pos : Nat} (h : w.heap[k]? = some (.stringIter s pos)) : w.iterPos k = pos := by
  unfold World.iterPos; rw [h]

/-- A round of the range: the iterator moved on, the callee behind it. -/
theorem iter_round {w wr w2 : World} {s : ByteArray} {pos pos' : Nat} (hk : wr.heap[w.heap.size]? = some (.stringIter s pos)) (hb : Below w.heap.size w wr)
    (h2 : Below (wr.iterAt w.heap.size s pos').heap.size (wr.iterAt w.heap.size s pos') w2) : w2.heap[w.heap.size]? = some (.stringIter s pos') ∧ Below w.heap.size w w2 := by
  have hlt : w.heap.size < wr.heap.size := (Array.getElem?_eq_some_iff.1 hk).1
  have hsz := Lib.iterAt_size wr w.heap.size s pos'
  refine ⟨?_, (Lib.below_iterAt hb (Nat.le_refl _) s pos').trans (h2.mono (by omega))⟩
  rw [h2.block _ (by omega)]
  exact Lib.iterAt_heap wr _ s pos pos' hk

set_option maxHeartbeats 1000000 in
theorem of_any (s : ByteArray) (w : World) (hs : s.size ≤ 1000000) (ht : Tab w) :
    Calls Tryd.prog 16 #[.string s] w fun e w' => e = .returned (.int .i64 (wd s 0)) ∧ Below w.heap.size w w' := by
  have HT := Lib.hid ht
  have HW := Lib.hid (wd_bd s 0)
  clear ht
  go_enter Tryd.func16, Tryd.ntmps16
  go_wp2
  go_loopw [3] (OfRel s w) (fun _ w' => s.size - w'.iterPos w.heap.size)
  case atStart => exact ⟨0, 0, World.iter_heap w s 0, Nat.zero_le _, rfl, by omega, by omega, (Below.refl _ _).alloc (Nat.le_refl _) _⟩
  case round =>
    obtain ⟨pos, acc, hk, hp, rfl, hacc, h0, hb⟩ := hrel
    have HK := Lib.hid hk
    have HB := Lib.hid hb
    have HA := Lib.hid hacc
    have HT2 := Lib.hid (HT.out.keep hb)
    by_cases hlt : pos < s.size
    · have hnx : ∀ ty, (Instr.next (.pointer (some ⟨w.heap.size, 0, none⟩)) true ty).run Tryd.prog wr = _ := fun ty => Lib.run_next_any_at wr _ s pos ty hk hlt
      clear hk hb hacc
      go_wp2_with fail
      refine (rune_any _ _ (HT.out.keep (Lib.below_iterAt HB.out (Nat.le_refl _) s (pos + (Utf8.decode s pos).2)))).mono ?_
      rintro e w2 ⟨rfl, hb2⟩
      have HR := Lib.hid (iter_round HK.out HB.out hb2)
      have HS := Lib.hid (wd_step s pos hlt)
      have hwp := Lib.decode_width_pos s pos hlt
      have hle := decode_len s pos hlt
      have hrb := runeW_bd (Utf8.decode s pos).1
      have hub : acc ≤ 2000000 := by
        have := HA.out
        have := HW.out
        have := wd_bd s pos
        omega
      clear hb2 hnx
      go_wp2
      go_roundw
      case rel =>
        refine ⟨pos + (Utf8.decode s pos).2, _, HR.out.1, hle, rfl, ?_, ?_, HR.out.2⟩
        · have := HA.out
          have := HS.out
          omega
        · omega
      case measure =>
        rw [iterPos_at HR.out.1, iterPos_at HK.out]
        omega
    · have hnx : ∀ ty, (Instr.next (.pointer (some ⟨w.heap.size, 0, none⟩)) true ty).run Tryd.prog wr = _ := fun ty => Lib.run_next_end_at wr _ s pos ty hk hlt
      clear hk hb hacc
      go_wp2
      go_ret
      exact ⟨ret_int (by have := HA.out; rw [wd_end s pos hlt] at this; omega), HB.out⟩

theorem wd_awake : wd ⟨#[97, 227, 129, 130]⟩ 0 = 3 := by decide +kernel
theorem rune_x : runeW 120 = 1 := by decide +kernel

end Go.Proofs.YtemnbleacjpfcaaDoor.W
