/-
  What the reference's two returns: a number below 100 in two digits. Conditions: the number is one.
-/
import Derived.Test.YtiegibgllnojcaaDoorDBase
import Derived.Test.YtiegibgllnojcaaDoorSOne
import Derived.Laws.IdiomStrings
namespace Go.Proofs.YtiegibgllnojcaaDoor
open Go.RowKit

theorem conv_two (w : World) (a b : Int) (x y : UInt8) (ha : a = (x.toNat : Int)) (hb : b = (y.toNat : Int)) :
    (convert 44 9 (.slice (some ⟨w.heap.size, 0, none⟩) 2 2)).run Tryd.prog (w.alloc (.cells #[.int .u8 a, .int .u8 b] 5)) = .ok (.string ⟨([x, y] : List UInt8).toArray⟩) (w.alloc (.cells #[.int .u8 a, .int .u8 b] 5)) := by
  subst ha hb
  refine run_convert_bytes_back _ 44 9 5 ⟨w.heap.size, 0, none⟩ 2 [x, y] Tryd.underlying44 Tryd.underlying5 Tryd.underlying9 ?_
  intro j hj
  match j, hj with
  | 0, _ => simp [go_sem, Addr.add]
  | 1, _ => simp [go_sem, Addr.add]
theorem conv_one (w : World) (a : Int) (x : UInt8) (ha : a = (x.toNat : Int)) :
    (convert 44 9 (.slice (some ⟨w.heap.size, 0, none⟩) 1 1)).run Tryd.prog (w.alloc (.cells #[.int .u8 a] 5)) = .ok (.string ⟨([x] : List UInt8).toArray⟩) (w.alloc (.cells #[.int .u8 a] 5)) := by
  subst ha
  refine run_convert_bytes_back _ 44 9 5 ⟨w.heap.size, 0, none⟩ 1 [x] Tryd.underlying44 Tryd.underlying5 Tryd.underlying9 ?_
  intro j hj
  match j, hj with
  | 0, _ => simp [go_sem, Addr.add]
theorem digit_of (d : Int) (k : Nat) (h : d.toNat = k) (h0 : 0 ≤ d) (h1 : d < 10) : 48 + d = ((UInt8.ofNat (48 + k)).toNat : Int) := by
  simp only [UInt8.toNat_ofNat']
  omega

set_option maxRecDepth 100000 in
theorem refTwo_any (n : Int) (w : World) (h0 : 0 ≤ n) (h1 : n < 100) :
    Calls Tryd.prog 36 #[.int .i64 n] w fun e w' => e = .returned (.string ⟨(twoL n.toNat).toArray⟩) ∧ Below w.heap.size w w' := by
  have a0 : 0 ≤ n / 10 % 10 := by omega
  have a1 : n / 10 % 10 < 10 := by omega
  have b0 : 0 ≤ n % 10 := by omega
  have b1 : n % 10 < 10 := by omega
  obtain ⟨X, hX⟩ : ∃ X, X = UInt8.ofNat (48 + n.toNat / 10 % 10) := ⟨_, rfl⟩
  obtain ⟨Y, hY⟩ : ∃ Y, Y = UInt8.ofNat (48 + n.toNat % 10) := ⟨_, rfl⟩
  have HL := Lib.hid (show twoL n.toNat = [X, Y] by rw [hX, hY]; rfl)
  have hc := conv_two w (48 + n / 10 % 10) (48 + n % 10) X Y (hX ▸ digit_of _ (n.toNat / 10 % 10) (by omega) a0 a1) (hY ▸ digit_of _ (n.toNat % 10) (by omega) b0 b1)
  clear hX hY
  go_enter Tryd.func36, Tryd.ntmps36
  go_wp2
  go_ret
  exact ⟨by rw [HL.out]; rfl, (Below.refl _ _).alloc (Nat.le_refl _) _⟩
end Go.Proofs.YtiegibgllnojcaaDoor
