/-
  What width.Most returns: the widest text's width; and the law WidthMost, walked: it returns true. Conditions: the slice that came in is nil or a row of texts; the package's table lies as its text lays it.
-/
import Derived.Test.YtemnbleacjpfcaaDoorWTexts
namespace Go.Proofs.YtemnbleacjpfcaaDoor.W
open Go.RowKit

/-- The widest text's width, 0 of none. -/
def mostW (l : List ByteArray) : Int := l.foldl (fun m s => max m (wd s 0)) 0
theorem mostW_snoc (l : List ByteArray) (s : ByteArray) : mostW (l ++ [s]) = max (mostW l) (wd s 0) := by simp [mostW]
theorem mostW_nonneg (l : List ByteArray) : 0 ≤ mostW l := by
  rcases List.eq_nil_or_concat l with rfl | ⟨l', x, rfl⟩
  · simp [mostW]
  · rw [List.concat_eq_append, mostW_snoc]
    have := (wd_bd x 0).1
    omega
theorem take_text (ss : List ByteArray) (k : Nat) (h : k < ss.length) : ss.take (k + 1) = ss.take k ++ [ss.getD k ByteArray.empty] := by
  rw [List.take_succ_eq_append_getElem h]
  simp [List.getD_eq_getElem?_getD, h]
theorem mostW_take (ss : List ByteArray) (k : Nat) (h : k < ss.length) : mostW (ss.take (k + 1)) = max (mostW (ss.take k)) (wd (ss.getD k ByteArray.empty) 0) := by
  rw [take_text ss k h, mostW_snoc]

theorem max_if (a b : Int) : (if a < b then b else a) = max a b := by split <;> omega

/-- The texts lie in block b from off on. -/
def TextsAt (b off len : Nat) (ss : List ByteArray) (w : World) : Prop := len ≤ ss.length ∧ ∀ i, i < len → w.cell? ⟨b, off + i, none⟩ = some (.string (ss.getD i ByteArray.empty))
theorem TextsAt.keep {b off len : Nat} {ss : List ByteArray} {w w' : World} (h : TextsAt b off len ss w) (hb : Below w.heap.size w w') : TextsAt b off len ss w' :=
  ⟨h.1, fun i hi => by rw [hb.cell (p := ⟨b, off + i, none⟩) (cell_lt (h.2 i hi))]; exact h.2 i hi⟩

theorem most_none (cap : Nat) (a : Option Addr) (w : World) :
    Calls Tryd.prog 15 #[.slice a 0 cap] w fun e w' => e = .returned (.int .i64 0) ∧ w = w' := by
  go_enter Tryd.func15, Tryd.ntmps15
  go_wp2
  refine wp_loop_rounds 1 ?_; rw [rounds_succ]
  go_wp2
  go_ret
  exact ⟨rfl, rfl⟩

def MostRel (ss : List ByteArray) (len : Nat) (w : World) (m i : Value) (w' : World) : Prop :=
  ∃ (k : Nat) (M : Int), k ≤ len ∧ i = .int .i64 (k : Int) ∧ m = .int .i64 M ∧ M = mostW (ss.take k) ∧ Below w.heap.size w w'

set_option maxHeartbeats 1000000 in
theorem most_some (b off len cap : Nat) (ss : List ByteArray) (w : World) (hl : len ≤ 1000000) (hz : ∀ i, i < len → (ss.getD i ByteArray.empty).size ≤ 1000000) (hx : TextsAt b off len ss w) (ht : Tab w) :
    Calls Tryd.prog 15 #[.slice (some ⟨b, off, none⟩) len cap] w fun e w' => e = .returned (.int .i64 (mostW (ss.take len))) ∧ Below w.heap.size w w' := by
  have HT := Lib.hid ht
  have HX := Lib.hid hx
  have HZ := Lib.hid hz
  clear ht hx hz
  go_enter Tryd.func15, Tryd.ntmps15
  go_wp2
  go_loopw [3, 8] (MostRel ss len w) (fun _ i _ => len - (intOf i).toNat)
  case atStart => exact ⟨0, 0, Nat.zero_le _, rfl, rfl, rfl, Below.refl _ _⟩
  case round =>
    obtain ⟨k, M, hk, rfl, rfl, hM, hb⟩ := hrel
    have HB := Lib.hid hb
    have HM := Lib.hid hM
    have X := HX.out.keep hb
    clear hb hM
    by_cases hlt : k < len
    · have hcell := X.2 k hlt
      have hsz := HZ.out k hlt
      have HS := Lib.hid (mostW_take ss k (Nat.lt_of_lt_of_le hlt X.1))
      clear X
      generalize ss.getD k ByteArray.empty = S at *
      go_wp2_with fail
      refine (of_any _ _ hsz (HT.out.keep HB.out)).mono ?_
      rintro e w2 ⟨rfl, hb2⟩
      have HB2 := Lib.hid (below_two HB.out hb2)
      clear hb2 hcell
      go_wp2_with fail
      go_roundw
      case rel => exact ⟨k + 1, _, by omega, by go_num, rfl, by rw [HS.out, ← HM.out]; exact max_if _ _, HB2.out⟩
      case measure => simp [intOf]; omega
    · clear X
      obtain rfl : k = len := by omega
      go_wp2
      go_ret
      exact ⟨ret_int HM.out, HB.out⟩

/-- What a walk is told of the slice of texts that came in. -/
def IsTexts (w : World) (a : Option Addr) (len : Nat) (ss : List ByteArray) : Prop := len = 0 ∨ ∃ b off, a = some ⟨b, off, none⟩ ∧ TextsAt b off len ss w
end Go.Proofs.YtemnbleacjpfcaaDoor.W
