/-
  What the law PermMay returns: true. Conditions: the table of classes lies as its text lays it; numbers are int64s.
-/
import Derived.Test.YtgnlbmpejkdoiaaDoorPBoxes
import Derived.Deep.RegionHeld3
set_option linter.unusedVariables false
namespace Go.Proofs.YtgnlbmpejkdoiaaDoor
open Go.RowKit

set_option maxHeartbeats 2000000 in
theorem may_walk (n : Nv) (u g want : Int) (w : World) (ht : Tab w) (h0 : -9223372036854775808 ≤ n.mode) (h1 : n.mode ≤ 9223372036854775807) :
    Calls Tryd.prog 3 #[nodeV n, credV u g, .int .i64 want] w fun e w' => e = .returned (.bool true) ∧ Below w.heap.size w w' := by
  have HT := Lib.hid ht
  clear ht
  obtain ⟨r, hr, r0, r1⟩ : ∃ r, Int.tmod n.mode 4096 = r ∧ -4096 < r ∧ r < 4096 := ⟨_, rfl, by have := Int.lt_tmod_of_pos n.mode (show (0 : Int) < 4096 by decide); omega, Int.tmod_lt_of_pos n.mode (by decide)⟩
  have HE := Lib.hid (show (r + 4096) % 4096 = n.mode % 4096 from by rw [← hr, Int.tmod_eq_emod]; split <;> omega)
  have hq : Int.tmod (r + 4096) 4096 = n.mode % 4096 := by rw [Int.tmod_eq_emod_of_nonneg (by omega)]; exact HE.out
  obtain ⟨r', hr', r0', r1'⟩ : ∃ r, Int.tmod want 8 = r ∧ -8 < r ∧ r < 8 := ⟨_, rfl, by have := Int.lt_tmod_of_pos want (show (0 : Int) < 8 by decide); omega, Int.tmod_lt_of_pos want (by decide)⟩
  have HE' := Lib.hid (show (r' + 8) % 8 = want % 8 from by rw [← hr', Int.tmod_eq_emod]; split <;> omega)
  have hq' : Int.tmod (r' + 8) 8 = want % 8 := by rw [Int.tmod_eq_emod_of_nonneg (by omega)]; exact HE'.out
  have hx : (IntKind.i64.wrap (want.tmod 8 + 8)).tmod 8 = want % 8 := by rw [hr', IntWalk.i64_in _ (by omega)]; exact hq'
  unfold nodeV credV
  go_enter Tryd.func3, Tryd.ntmps3
  go_wp2_with fail
  obtain ⟨w1, hw1⟩ : ∃ w1, (w.alloc (.cells #[.int .i64 n.dev, .int .i64 n.ino, .int .i64 n.kind, .int .i64 (n.mode % 4096), .int .i64 n.uid, .int .i64 n.gid, .int .i64 n.size, .int .i64 n.blocks, .int .i64 n.links, .int .i64 n.ta, .int .i64 n.tb, .int .i64 n.tc, .string n.target] 24)).alloc (.cells #[.int .i64 u, .int .i64 g] 26) = w1 := ⟨_, rfl⟩
  rw [hw1]
  have hk : Boxes w w.heap.size (cutM n) u g w1 := by
    subst hw1
    refine boxes_of ?_ (by (repeat (first | (with_reducible apply Below.setCell (hp := ?_)) | (with_reducible apply Below.alloc (hB := ?_)) | (with_reducible exact Below.refl _ _) | (simp; done) | omega)))
    unfold cutM
    dsimp only
    refine ⟨?_, ?_, ?_, ?_, ?_, ?_, ?_, ?_, ?_, ?_, ?_, ?_, ?_, ?_, ?_⟩ <;> go_simp
  clear hw1
  have hA := fun (wx : World) (k : Boxes w w.heap.size (cutM n) u g wx) => box_step k (awake_any wx (HT.out.keep k.below))
  have hM := fun (wx : World) (k : Boxes w w.heap.size (cutM n) u g wx) => box_step k (may_any (cutM n) u g want wx (HT.out.keep k.below))
  have hF := fun (wx : World) (k : Boxes w w.heap.size (cutM n) u g wx) => box_step k (refMay_any (cutM n) u g (want % 8) wx (by show 0 ≤ n.mode % 4096; omega) (by show n.mode % 4096 < 4096; omega) (by omega) (by omega))
  have hmm : mayB (bitsP (cutM n) u g) want = mayB (bitsP (cutM n) u g) (want % 8) := may_low rfl (by omega)
  rw [← hmm] at hF
  clear hmm
  generalize mayB (bitsP (cutM n) u g) want = ans at hM hF
  have hCell : ∀ wx : World, Boxes w w.heap.size (cutM n) u g wx → wx.cell? ⟨w.heap.size, 0, none⟩ = some (.int .i64 n.dev) ∧ wx.cell? ⟨w.heap.size, 1, none⟩ = some (.int .i64 n.ino) ∧ wx.cell? ⟨w.heap.size, 2, none⟩ = some (.int .i64 n.kind) ∧ wx.cell? ⟨w.heap.size, 3, none⟩ = some (.int .i64 (n.mode % 4096)) ∧ wx.cell? ⟨w.heap.size, 4, none⟩ = some (.int .i64 n.uid) ∧ wx.cell? ⟨w.heap.size, 5, none⟩ = some (.int .i64 n.gid) ∧ wx.cell? ⟨w.heap.size, 6, none⟩ = some (.int .i64 n.size) ∧ wx.cell? ⟨w.heap.size, 7, none⟩ = some (.int .i64 n.blocks) ∧ wx.cell? ⟨w.heap.size, 8, none⟩ = some (.int .i64 n.links) ∧ wx.cell? ⟨w.heap.size, 9, none⟩ = some (.int .i64 n.ta) ∧ wx.cell? ⟨w.heap.size, 10, none⟩ = some (.int .i64 n.tb) ∧ wx.cell? ⟨w.heap.size, 11, none⟩ = some (.int .i64 n.tc) ∧ wx.cell? ⟨w.heap.size, 12, none⟩ = some (.string n.target) ∧ wx.cell? ⟨w.heap.size + 1, 0, none⟩ = some (.int .i64 u) ∧ wx.cell? ⟨w.heap.size + 1, 1, none⟩ = some (.int .i64 g) := fun (wx : World) (k : Boxes w w.heap.size (cutM n) u g wx) => k.cells
  have hDrew : ∀ wx : World, Boxes w w.heap.size (cutM n) u g wx → Boxes w w.heap.size (cutM n) u g wx.drew := fun wx k => k.drew
  have hBel : ∀ wx : World, Boxes w w.heap.size (cutM n) u g wx → Below w.heap.size w wx := fun wx k => k.below
  generalize Boxes w w.heap.size (cutM n) u g = Bx at hk hA hM hF hCell hDrew hBel
  simp only [nodeV, credV, cutM] at hM hF
  rw [← hx] at hF
  clear hx
  have HA := Lib.hid hA
  have HM := Lib.hid hM
  have HF := Lib.hid hF
  have HCell := Lib.hid hCell
  have HDrew := Lib.hid hDrew
  have HBel := Lib.hid hBel
  clear hA hM hF hCell hDrew hBel
  clear hr r0 r1 HE hq hr' r0' r1' HE' h0 h1
  have hbb : (ans == ans) = true := by cases ans <;> rfl
  go_region_held3 (fun w' => Bx w' ∧ w'.cell? ⟨w.heap.size, 0, none⟩ = some (.int .i64 n.dev) ∧ w'.cell? ⟨w.heap.size, 1, none⟩ = some (.int .i64 n.ino) ∧ w'.cell? ⟨w.heap.size, 2, none⟩ = some (.int .i64 n.kind) ∧ w'.cell? ⟨w.heap.size, 3, none⟩ = some (.int .i64 (n.mode % 4096)) ∧ w'.cell? ⟨w.heap.size, 4, none⟩ = some (.int .i64 n.uid) ∧ w'.cell? ⟨w.heap.size, 5, none⟩ = some (.int .i64 n.gid) ∧ w'.cell? ⟨w.heap.size, 6, none⟩ = some (.int .i64 n.size) ∧ w'.cell? ⟨w.heap.size, 7, none⟩ = some (.int .i64 n.blocks) ∧ w'.cell? ⟨w.heap.size, 8, none⟩ = some (.int .i64 n.links) ∧ w'.cell? ⟨w.heap.size, 9, none⟩ = some (.int .i64 n.ta) ∧ w'.cell? ⟨w.heap.size, 10, none⟩ = some (.int .i64 n.tb) ∧ w'.cell? ⟨w.heap.size, 11, none⟩ = some (.int .i64 n.tc) ∧ w'.cell? ⟨w.heap.size, 12, none⟩ = some (.string n.target) ∧ w'.cell? ⟨w.heap.size + 1, 0, none⟩ = some (.int .i64 u) ∧ w'.cell? ⟨w.heap.size + 1, 1, none⟩ = some (.int .i64 g)) (first | exact ⟨hk, HCell.out _ hk⟩ | exact ⟨HDrew.out _ hk, HCell.out _ (HDrew.out _ hk)⟩)
    (first | (go_at_call 6; with_reducible refine (HA.out _ (And.left (by assumption))).mono ?_; rintro e w3 ⟨rfl, hk⟩) | (go_at_call 7; with_reducible refine (HM.out _ (And.left (by assumption))).mono ?_; rintro e w3 ⟨rfl, hk⟩) | (go_at_call 8; with_reducible refine (HF.out _ (And.left (by assumption))).mono ?_; rintro e w3 ⟨rfl, hk⟩))
  go_wp2_with fail
  go_ret
  exact ⟨rfl, HBel.out _ (And.left (by assumption))⟩
end Go.Proofs.YtgnlbmpejkdoiaaDoor
