/-
  What the law PermTexts returns: true. Conditions: the table of classes lies as its text lays it; numbers are int64s.
-/
import Derived.Test.YtgnlbmpejkdoiaaDoorPRefText
import Derived.Deep.RegionHeld3
set_option linter.unusedVariables false
namespace Go.Proofs.YtgnlbmpejkdoiaaDoor
open Go.RowKit

/-- In w the node's box lies at B; nothing of W has changed. -/
structure NBox (W : World) (B : Nat) (n : Nv) (w : World) : Prop where
  node : w.rangeAt B 0 (cellsN n)
  below : Below W.heap.size W w
theorem NBox.step {W : World} {B : Nat} {n : Nv} {w : World} (k : NBox W B n w) {f : FuncId} {args : Array Value} {v : Value}
    (h : Calls Tryd.prog f args w fun e w' => e = .returned v ∧ Below w.heap.size w w') : Calls Tryd.prog f args w fun e w' => e = .returned v ∧ NBox W B n w' := h.mono fun _ _ ⟨a, b⟩ => ⟨a, range_keep k.node b, below_two k.below b⟩

set_option maxHeartbeats 2000000 in
theorem texts_walk (n : Nv) (w : World) (ht : Tab w) (h0 : -9223372036854775808 ≤ n.mode) (h1 : n.mode ≤ 9223372036854775807) :
    Calls Tryd.prog 4 #[nodeV n] w fun e w' => e = .returned (.bool true) ∧ Below w.heap.size w w' := by
  have HT := Lib.hid ht
  clear ht
  obtain ⟨r, hr, r0, r1⟩ : ∃ r, Int.tmod n.mode 4096 = r ∧ -4096 < r ∧ r < 4096 := ⟨_, rfl, by have := Int.lt_tmod_of_pos n.mode (show (0 : Int) < 4096 by decide); omega, Int.tmod_lt_of_pos n.mode (by decide)⟩
  have HE := Lib.hid (show (r + 4096) % 4096 = n.mode % 4096 from by rw [← hr, Int.tmod_eq_emod]; split <;> omega)
  have hq : Int.tmod (r + 4096) 4096 = n.mode % 4096 := by rw [Int.tmod_eq_emod_of_nonneg (by omega)]; exact HE.out
  unfold nodeV
  go_enter Tryd.func4, Tryd.ntmps4
  go_wp2_with fail
  obtain ⟨w1, hw1⟩ : ∃ w1, w.alloc (.cells #[.int .i64 n.dev, .int .i64 n.ino, .int .i64 n.kind, .int .i64 (n.mode % 4096), .int .i64 n.uid, .int .i64 n.gid, .int .i64 n.size, .int .i64 n.blocks, .int .i64 n.links, .int .i64 n.ta, .int .i64 n.tb, .int .i64 n.tc, .string n.target] 24) = w1 := ⟨_, rfl⟩
  rw [hw1]
  have hk : NBox w w.heap.size (cutM n) w1 := by
    subst hw1
    refine ⟨fun j v hj => ?_, (Below.refl _ _).alloc (Nat.le_refl _) _⟩
    rw [World.cell?_alloc_at _ _ _ _ rfl]
    have hl : j < 13 := (List.getElem?_eq_some_iff.1 hj).1
    match j, hl, hj with
    | 0, _, hj => cases Option.some.inj hj; rfl
    | 1, _, hj => cases Option.some.inj hj; rfl
    | 2, _, hj => cases Option.some.inj hj; rfl
    | 3, _, hj => cases Option.some.inj hj; rfl
    | 4, _, hj => cases Option.some.inj hj; rfl
    | 5, _, hj => cases Option.some.inj hj; rfl
    | 6, _, hj => cases Option.some.inj hj; rfl
    | 7, _, hj => cases Option.some.inj hj; rfl
    | 8, _, hj => cases Option.some.inj hj; rfl
    | 9, _, hj => cases Option.some.inj hj; rfl
    | 10, _, hj => cases Option.some.inj hj; rfl
    | 11, _, hj => cases Option.some.inj hj; rfl
    | 12, _, hj => cases Option.some.inj hj; rfl
  clear hw1
  have hA := fun (wx : World) (k : NBox w w.heap.size (cutM n) wx) => k.step (awake_any wx (HT.out.keep k.below))
  have h2 := fun (wx : World) (k : NBox w w.heap.size (cutM n) wx) => k.step (text_any (cutM n) wx (HT.out.keep k.below))
  have h3 := fun (wx : World) (k : NBox w w.heap.size (cutM n) wx) => k.step (refText_any (cutM n) wx (by show 0 ≤ n.mode % 4096; omega) (by show n.mode % 4096 < 4096; omega))
  have h4 := fun (wx : World) (k : NBox w w.heap.size (cutM n) wx) => k.step (kind_any (cutM n) wx)
  have h5 := fun (wx : World) (k : NBox w w.heap.size (cutM n) wx) => k.step (refKind_any (cutM n) wx)
  have h6 := fun (wx : World) (k : NBox w w.heap.size (cutM n) wx) => k.step (mark_any (cutM n) wx (HT.out.keep k.below))
  have h7 := fun (wx : World) (k : NBox w w.heap.size (cutM n) wx) => k.step (refMark_any (cutM n) wx (by show 0 ≤ n.mode % 4096; omega) (by show n.mode % 4096 < 4096; omega))
  have hCell : ∀ wx : World, NBox w w.heap.size (cutM n) wx → wx.cell? ⟨w.heap.size, 0, none⟩ = some (.int .i64 n.dev) ∧ wx.cell? ⟨w.heap.size, 1, none⟩ = some (.int .i64 n.ino) ∧ wx.cell? ⟨w.heap.size, 2, none⟩ = some (.int .i64 n.kind) ∧ wx.cell? ⟨w.heap.size, 3, none⟩ = some (.int .i64 (n.mode % 4096)) ∧ wx.cell? ⟨w.heap.size, 4, none⟩ = some (.int .i64 n.uid) ∧ wx.cell? ⟨w.heap.size, 5, none⟩ = some (.int .i64 n.gid) ∧ wx.cell? ⟨w.heap.size, 6, none⟩ = some (.int .i64 n.size) ∧ wx.cell? ⟨w.heap.size, 7, none⟩ = some (.int .i64 n.blocks) ∧ wx.cell? ⟨w.heap.size, 8, none⟩ = some (.int .i64 n.links) ∧ wx.cell? ⟨w.heap.size, 9, none⟩ = some (.int .i64 n.ta) ∧ wx.cell? ⟨w.heap.size, 10, none⟩ = some (.int .i64 n.tb) ∧ wx.cell? ⟨w.heap.size, 11, none⟩ = some (.int .i64 n.tc) ∧ wx.cell? ⟨w.heap.size, 12, none⟩ = some (.string n.target) := fun wx k => ⟨k.node 0 _ rfl, k.node 1 _ rfl, k.node 2 _ rfl, k.node 3 _ rfl, k.node 4 _ rfl, k.node 5 _ rfl, k.node 6 _ rfl, k.node 7 _ rfl, k.node 8 _ rfl, k.node 9 _ rfl, k.node 10 _ rfl, k.node 11 _ rfl, k.node 12 _ rfl⟩
  have hDrew : ∀ wx : World, NBox w w.heap.size (cutM n) wx → NBox w w.heap.size (cutM n) wx.drew := fun wx k => ⟨k.node, k.below.trans ⟨rfl, rfl, rfl, Nat.le_refl _, fun _ _ => rfl⟩⟩
  have hBel : ∀ wx : World, NBox w w.heap.size (cutM n) wx → Below w.heap.size w wx := fun wx k => k.below
  generalize txt (textP (cutM n).kind (cutM n).mode) = X at h2 h3
  generalize txt (kindL (cutM n).kind) = Y at h4 h5
  generalize txt (markL (cutM n).kind (cutM n).mode) = Z at h6 h7
  generalize NBox w w.heap.size (cutM n) = Bx at hk hA h2 h3 h4 h5 h6 h7 hCell hDrew hBel
  simp only [nodeV, cutM] at h2 h3 h4 h5 h6 h7
  have HA := Lib.hid hA
  have H2 := Lib.hid h2
  have H3 := Lib.hid h3
  have H4 := Lib.hid h4
  have H5 := Lib.hid h5
  have H6 := Lib.hid h6
  have H7 := Lib.hid h7
  have HCell := Lib.hid hCell
  have HDrew := Lib.hid hDrew
  have HBel := Lib.hid hBel
  clear hA h2 h3 h4 h5 h6 h7 hCell hDrew hBel hr r0 r1 HE hq h0 h1
  have x1 : (X.toList == X.toList) = true := beq_self_eq_true _
  have x2 : (Y.toList == Y.toList) = true := beq_self_eq_true _
  have x3 : (Z.toList == Z.toList) = true := beq_self_eq_true _
  go_region_held3 (fun w' => Bx w' ∧ w'.cell? ⟨w.heap.size, 0, none⟩ = some (.int .i64 n.dev) ∧ w'.cell? ⟨w.heap.size, 1, none⟩ = some (.int .i64 n.ino) ∧ w'.cell? ⟨w.heap.size, 2, none⟩ = some (.int .i64 n.kind) ∧ w'.cell? ⟨w.heap.size, 3, none⟩ = some (.int .i64 (n.mode % 4096)) ∧ w'.cell? ⟨w.heap.size, 4, none⟩ = some (.int .i64 n.uid) ∧ w'.cell? ⟨w.heap.size, 5, none⟩ = some (.int .i64 n.gid) ∧ w'.cell? ⟨w.heap.size, 6, none⟩ = some (.int .i64 n.size) ∧ w'.cell? ⟨w.heap.size, 7, none⟩ = some (.int .i64 n.blocks) ∧ w'.cell? ⟨w.heap.size, 8, none⟩ = some (.int .i64 n.links) ∧ w'.cell? ⟨w.heap.size, 9, none⟩ = some (.int .i64 n.ta) ∧ w'.cell? ⟨w.heap.size, 10, none⟩ = some (.int .i64 n.tb) ∧ w'.cell? ⟨w.heap.size, 11, none⟩ = some (.int .i64 n.tc) ∧ w'.cell? ⟨w.heap.size, 12, none⟩ = some (.string n.target)) (first | exact ⟨hk, HCell.out _ hk⟩ | exact ⟨HDrew.out _ hk, HCell.out _ (HDrew.out _ hk)⟩)
    (first | (go_at_call 6; with_reducible refine (HA.out _ (And.left (by assumption))).mono ?_; rintro e w3 ⟨rfl, hk⟩) | (go_at_call 9; with_reducible refine (H2.out _ (And.left (by assumption))).mono ?_; rintro e w3 ⟨rfl, hk⟩) | (go_at_call 10; with_reducible refine (H3.out _ (And.left (by assumption))).mono ?_; rintro e w3 ⟨rfl, hk⟩) | (go_at_call 11; with_reducible refine (H4.out _ (And.left (by assumption))).mono ?_; rintro e w3 ⟨rfl, hk⟩) | (go_at_call 12; with_reducible refine (H5.out _ (And.left (by assumption))).mono ?_; rintro e w3 ⟨rfl, hk⟩) | (go_at_call 13; with_reducible refine (H6.out _ (And.left (by assumption))).mono ?_; rintro e w3 ⟨rfl, hk⟩) | (go_at_call 14; with_reducible refine (H7.out _ (And.left (by assumption))).mono ?_; rintro e w3 ⟨rfl, hk⟩) )
  go_wp2_with fail
  go_ret
  exact ⟨rfl, HBel.out _ (And.left (by assumption))⟩
end Go.Proofs.YtgnlbmpejkdoiaaDoor
