/-
  What perm's Text returns: ten letters. Conditions: the table of classes lies as its text lays it.
  The reference's digits, anyX, has and May. Conditions: modes from 0 to 4095, wants from 0 to 7.
  The reference's May. Conditions: modes from 0 to 4095, wants from 0 to 7.
  The boxes of a node and of who asks; awake; the mode cut to twelve bits. Conditions: the table of classes lies as its text lays it.
  What perm's Mark, and the reference's Kind and Mark return. Conditions: the table of classes lies as its text lays it; the reference's: modes from 0 to 4095.
  What the reference's Text returns: the same ten letters. Conditions: modes from 0 to 4095.
-/
import Derived.Test.YtknfhphhcnbndaaGreatDoorFJModM
import Derived.Deep.CutRange
import Derived.Deep.DeepCutAuto
set_option linter.unusedSimpArgs false
set_option linter.unusedVariables false
namespace Go.Proofs.YtknfhphhcnbndaaGreatDoor.P
open Go.RowKit

/-- A class's copy, as a block. -/
def copyO (f s : Int) (x X : UInt8) : Obj := .cells #[.int .i64 f, .int .i64 s, .string ⟨#[x]⟩, .string ⟨#[X]⟩] 327
structure Rnd (W0 : World) (b q p0 : Nat) (m f s : Int) (x X : UInt8) (l : List UInt8) (w : World) : Prop where
  bld : Bld W0 b l w
  copy : w.heap[q]? = some (copyO f s x X)
  box : w.cell? ⟨p0, 3, none⟩ = some (.int .i64 m)
theorem Rnd.write {W0 : World} {b q p0 : Nat} {m f s : Int} {x X : UInt8} {l : List UInt8} {w : World} (h : Rnd W0 b q p0 m f s x X l w) (hq : q ≠ b) (hp : p0 < W0.heap.size) (hl : l.length ≤ 100) (t : ByteArray) (ht : t.size ≤ 100) :
    Calls Tryz.prog 121 #[.pointer (some ⟨b, 0, none⟩), .string t] w fun e w' => (∃ v, e = .returned v) ∧ Rnd W0 b q p0 m f s x X (l ++ t.data.toList) w' := by
  refine (h.bld.writeString (by omega) t (by omega)).mono ?_
  rintro e w' ⟨hv, hb, hk⟩
  refine ⟨hv, hb, hk q _ h.copy hq (fun c fz e => by unfold copyO at e; injection e with _ e2; exact absurd e2 (by decide)), ?_⟩
  rw [hb.2.1.cell (p := ⟨p0, 3, none⟩) hp, ← h.bld.2.1.cell (p := ⟨p0, 3, none⟩) hp]
  exact h.box
theorem Rnd.cells {W0 : World} {b q p0 : Nat} {m f s : Int} {x X : UInt8} {l : List UInt8} {w : World} (h : Rnd W0 b q p0 m f s x X l w) :
    w.cell? ⟨q, 0, none⟩ = some (.int .i64 f) ∧ w.cell? ⟨q, 1, none⟩ = some (.int .i64 s) ∧ w.cell? ⟨q, 2, none⟩ = some (.string ⟨#[x]⟩) ∧ w.cell? ⟨q, 3, none⟩ = some (.string ⟨#[X]⟩) ∧ w.cell? ⟨p0, 3, none⟩ = some (.int .i64 m) := by
  have hc := h.copy
  unfold copyO at hc
  refine ⟨?_, ?_, ?_, ?_, h.box⟩ <;> (unfold World.cell?; simp [hc])
def partL (m : Int) (k : Nat) : List UInt8 := match k with
  | 0 => []
  | 1 => clsL m 6 11 115 83
  | 2 => clsL m 6 11 115 83 ++ clsL m 3 10 115 83
  | _ => clsL m 6 11 115 83 ++ clsL m 3 10 115 83 ++ clsL m 0 9 116 84
theorem kindL_len (k : Int) : (kindL k).length = 1 := by unfold kindL; split; rfl; split; rfl; split <;> rfl
def TRel (W0 : World) (b : Nat) (kd m : Int) (v : Value) (w : World) : Prop := ∃ k : Nat, k ≤ 3 ∧ v = .int .i64 (k : Int) ∧ Bld W0 b (kindL kd ++ partL m k) w
set_option maxHeartbeats 2000000 in
theorem text_any (n : Nv) (w : World) (ht : Tab w) :
    Calls Tryz.prog 196 #[nodeV n] w fun e w' => e = .returned (.string (txt (textP n.kind n.mode))) ∧ Below w.heap.size w w' := by
  have HT := Lib.hid ht
  clear ht
  have HK := Lib.hid (kind_any n)
  obtain ⟨kl, hkl⟩ : ∃ kl, kindL n.kind = kl := ⟨_, rfl⟩
  have HKL := Lib.hid (show kl.length = 1 by rw [← hkl]; exact kindL_len _)
  rw [hkl] at HK
  have HR := Lib.hid (show textP n.kind n.mode = kl ++ partL n.mode 3 by unfold textP partL; rw [hkl]; simp)
  unfold nodeV at HK
  unfold nodeV
  obtain ⟨W0, hW0⟩ : ∃ W0, w.alloc (.cells #[.int .i64 n.dev, .int .i64 n.ino, .int .i64 n.kind, .int .i64 n.mode, .int .i64 n.uid, .int .i64 n.gid, .int .i64 n.size, .int .i64 n.blocks, .int .i64 n.links, .int .i64 n.ta, .int .i64 n.tb, .int .i64 n.tc, .string n.target] 66) = W0 := ⟨_, rfl⟩
  have HW := Lib.hid hW0
  have HBW := Lib.hid (show Below w.heap.size w W0 from by rw [← hW0]; (repeat (first | (with_reducible apply Below.setCell (hp := ?_)) | (with_reducible apply Below.alloc (hB := ?_)) | (with_reducible exact Below.refl _ _) | (simp; done) | omega)))
  have hsz : W0.heap.size = w.heap.size + 1 := by rw [← hW0]; simp
  have HC := Lib.hid (show W0.cell? ⟨w.heap.size, 3, none⟩ = some (.int .i64 n.mode) from by rw [← hW0, World.cell?_alloc_at _ _ _ _ rfl]; rfl)
  have HM := Lib.hid (Bld.made W0)
  clear hW0
  go_enter Tryz.func196, Tryz.ntmps196
  go_wp2_with fail
  refine (HK.out _).mono ?_
  rintro e w1 ⟨rfl, hb1⟩
  rw [HW.out] at hb1
  have hm := HM.out.keep hb1
  rw [hsz] at hm
  clear hb1
  have HM1 := Lib.hid hm
  clear hm
  go_wp2_with fail
  refine (HM1.out.writeString (by simp) (txt kl) (by rw [txt_size, HKL.out]; decide)).mono ?_
  rintro e w2 ⟨⟨v2, rfl⟩, hb2, _⟩
  rw [List.nil_append, txt_list] at hb2
  have HB2 := Lib.hid hb2
  clear hb2
  go_wp2_with (refine wpList_load_mid rfl 328 (.global 5) rfl 5 0 rfl classCells _ ((HT.out.keep HBW.out).keep HB2.out.2.1).cell Tryz.underlying328 rfl sizeClasses ?_)
  go_loopw [10] (TRel W0 (w.heap.size + 1) n.kind n.mode) (fun v _ => (3 - intOf v).toNat)
  case atStart => exact ⟨0, by decide, rfl, by rw [hkl]; simpa [partL] using HB2.out⟩
  case round =>
    clear HB2 HM1 HM HK
    obtain ⟨k, hk, rfl, hb⟩ := hrel
    rw [hkl] at hb
    have HB := Lib.hid hb
    have hlt' : w.heap.size + 1 < wr.heap.size := by
      rcases hb.1 with h | h
      · exact h.lt
      · exact h.lt
    have hc : wr.cell? ⟨w.heap.size, 3, none⟩ = some (.int .i64 n.mode) := by rw [hb.2.1.cell (p := ⟨w.heap.size, 3, none⟩) (show w.heap.size < W0.heap.size by omega)]; exact HC.out
    have HKE := Lib.hid hkl
    clear hb hkl
    have hk' : k = 0 ∨ k = 1 ∨ k = 2 ∨ k = 3 := by omega
    clear hk
    rcases hk' with rfl | rfl | rfl | rfl
    · have hi := class0
      have hr : Rnd W0 (w.heap.size + 1) wr.heap.size w.heap.size n.mode 6 11 115 83 (kl ++ partL n.mode 0) (wr.alloc (copyO 6 11 115 83)) :=
        ⟨HB.out.keep (by (repeat (first | (with_reducible apply Below.setCell (hp := ?_)) | (with_reducible apply Below.alloc (hB := ?_)) | (with_reducible exact Below.refl _ _) | (simp; done) | omega))), heap_alloc_new _ _, by rw [World.cell?_alloc_old _ _ _ (by show w.heap.size ≠ wr.heap.size; omega)]; exact hc⟩
      have hlen : (kl ++ partL n.mode 0).length ≤ 20 := by rw [List.length_append, HKL.out]; exact Nat.le_of_ble_eq_true rfl
      have HL := Lib.hid hlen
      clear hlen
      have hlt2 : w.heap.size < wr.heap.size := by omega
      have HR0 := Lib.hid hr
      clear hr
      obtain ⟨y1, e1⟩ : ∃ y : ByteArray, (if bitB n.mode 8 = true then (⟨#[114]⟩ : ByteArray) else ⟨#[45]⟩) = y := ⟨_, rfl⟩
      obtain ⟨y2, e2⟩ : ∃ y : ByteArray, (if bitB n.mode 7 = true then (⟨#[119]⟩ : ByteArray) else ⟨#[45]⟩) = y := ⟨_, rfl⟩
      have HY1 := Lib.hid (show y1.data.toList = [if bitB n.mode 8 then 114 else 45] ∧ y1.size = 1 by rw [← e1]; cases bitB n.mode 8 <;> exact ⟨rfl, rfl⟩)
      have HY2 := Lib.hid (show y2.data.toList = [if bitB n.mode 7 then 119 else 45] ∧ y2.size = 1 by rw [← e2]; cases bitB n.mode 7 <;> exact ⟨rfl, rfl⟩)
      have HE1 := Lib.hid e1
      have HE2 := Lib.hid e2
      clear e1 e2
      go_wp2_with fail
      refine (setAt 8 _ rfl (by decide) _ _).mono ?_
      rintro e w' ⟨rfl, rfl⟩
      go_wp2_with fail
      refine (letter_any _ _ _ _).mono ?_
      rintro e w' ⟨rfl, rfl⟩
      rw [HE1.out]
      go_wp2_with fail
      refine (HR0.out.write (by omega) (by omega) (by have := HL.out; omega) y1 (by rw [HY1.out.2]; decide)).mono ?_
      rintro e w3 ⟨⟨v3, rfl⟩, hr3⟩
      obtain ⟨c0, c1, c2, c3, c4⟩ := hr3.cells
      have HR3 := Lib.hid hr3
      clear hr3
      go_wp2_with fail
      refine (setAt 7 _ rfl (by decide) _ _).mono ?_
      rintro e w' ⟨rfl, rfl⟩
      go_wp2_with fail
      refine (letter_any _ _ _ _).mono ?_
      rintro e w' ⟨rfl, rfl⟩
      rw [HE2.out]
      go_wp2_with fail
      refine (HR3.out.write (by omega) (by omega) (by have := HL.out; rw [List.length_append, HY1.out.1]; simp; simp at this; omega) y2 (by rw [HY2.out.2]; decide)).mono ?_
      rintro e w4 ⟨⟨v4, rfl⟩, hr4⟩
      clear c0 c1 c2 c3 c4
      obtain ⟨c0, c1, c2, c3, c4⟩ := hr4.cells
      have HR4 := Lib.hid hr4
      clear hr4
      go_wp2_with fail
      refine (last_any n.mode 6 11 115 83 _ (by decide) (by decide)).mono ?_
      rintro e w5 ⟨rfl, hb5⟩
      have HB5 := Lib.hid (HR4.out.bld.keep hb5)
      clear hb5 c0 c1 c2 c3 c4
      go_wp2_with fail
      refine (HB5.out.writeString (by have := HL.out; rw [List.length_append, List.length_append, HY1.out.1, HY2.out.1]; simp; simp at this; omega) _ (by rw [txt_size]; simp)).mono ?_
      rintro e w6 ⟨⟨v6, rfl⟩, hb6, _⟩
      have HB6 := Lib.hid hb6
      clear hb6
      go_wp2_with fail
      go_roundw
      case rel =>
        refine ⟨1, by decide, rfl, ?_⟩
        have := HB6.out
        rw [HY1.out.1, HY2.out.1, txt_list, ← HKE.out] at this
        simpa [partL, clsL] using this
      case measure => decide
    · have hi := class1
      have hr : Rnd W0 (w.heap.size + 1) wr.heap.size w.heap.size n.mode 3 10 115 83 (kl ++ partL n.mode 1) (wr.alloc (copyO 3 10 115 83)) :=
        ⟨HB.out.keep (by (repeat (first | (with_reducible apply Below.setCell (hp := ?_)) | (with_reducible apply Below.alloc (hB := ?_)) | (with_reducible exact Below.refl _ _) | (simp; done) | omega))), heap_alloc_new _ _, by rw [World.cell?_alloc_old _ _ _ (by show w.heap.size ≠ wr.heap.size; omega)]; exact hc⟩
      have hlen : (kl ++ partL n.mode 1).length ≤ 20 := by rw [List.length_append, HKL.out]; exact Nat.le_of_ble_eq_true rfl
      have HL := Lib.hid hlen
      clear hlen
      have hlt2 : w.heap.size < wr.heap.size := by omega
      have HR0 := Lib.hid hr
      clear hr
      obtain ⟨y1, e1⟩ : ∃ y : ByteArray, (if bitB n.mode 5 = true then (⟨#[114]⟩ : ByteArray) else ⟨#[45]⟩) = y := ⟨_, rfl⟩
      obtain ⟨y2, e2⟩ : ∃ y : ByteArray, (if bitB n.mode 4 = true then (⟨#[119]⟩ : ByteArray) else ⟨#[45]⟩) = y := ⟨_, rfl⟩
      have HY1 := Lib.hid (show y1.data.toList = [if bitB n.mode 5 then 114 else 45] ∧ y1.size = 1 by rw [← e1]; cases bitB n.mode 5 <;> exact ⟨rfl, rfl⟩)
      have HY2 := Lib.hid (show y2.data.toList = [if bitB n.mode 4 then 119 else 45] ∧ y2.size = 1 by rw [← e2]; cases bitB n.mode 4 <;> exact ⟨rfl, rfl⟩)
      have HE1 := Lib.hid e1
      have HE2 := Lib.hid e2
      clear e1 e2
      go_wp2_with fail
      refine (setAt 5 _ rfl (by decide) _ _).mono ?_
      rintro e w' ⟨rfl, rfl⟩
      go_wp2_with fail
      refine (letter_any _ _ _ _).mono ?_
      rintro e w' ⟨rfl, rfl⟩
      rw [HE1.out]
      go_wp2_with fail
      refine (HR0.out.write (by omega) (by omega) (by have := HL.out; omega) y1 (by rw [HY1.out.2]; decide)).mono ?_
      rintro e w3 ⟨⟨v3, rfl⟩, hr3⟩
      obtain ⟨c0, c1, c2, c3, c4⟩ := hr3.cells
      have HR3 := Lib.hid hr3
      clear hr3
      go_wp2_with fail
      refine (setAt 4 _ rfl (by decide) _ _).mono ?_
      rintro e w' ⟨rfl, rfl⟩
      go_wp2_with fail
      refine (letter_any _ _ _ _).mono ?_
      rintro e w' ⟨rfl, rfl⟩
      rw [HE2.out]
      go_wp2_with fail
      refine (HR3.out.write (by omega) (by omega) (by have := HL.out; rw [List.length_append, HY1.out.1]; simp; simp at this; omega) y2 (by rw [HY2.out.2]; decide)).mono ?_
      rintro e w4 ⟨⟨v4, rfl⟩, hr4⟩
      clear c0 c1 c2 c3 c4
      obtain ⟨c0, c1, c2, c3, c4⟩ := hr4.cells
      have HR4 := Lib.hid hr4
      clear hr4
      go_wp2_with fail
      refine (last_any n.mode 3 10 115 83 _ (by decide) (by decide)).mono ?_
      rintro e w5 ⟨rfl, hb5⟩
      have HB5 := Lib.hid (HR4.out.bld.keep hb5)
      clear hb5 c0 c1 c2 c3 c4
      go_wp2_with fail
      refine (HB5.out.writeString (by have := HL.out; rw [List.length_append, List.length_append, HY1.out.1, HY2.out.1]; simp; simp at this; omega) _ (by rw [txt_size]; simp)).mono ?_
      rintro e w6 ⟨⟨v6, rfl⟩, hb6, _⟩
      have HB6 := Lib.hid hb6
      clear hb6
      go_wp2_with fail
      go_roundw
      case rel =>
        refine ⟨2, by decide, rfl, ?_⟩
        have := HB6.out
        rw [HY1.out.1, HY2.out.1, txt_list, ← HKE.out] at this
        simpa [partL, clsL] using this
      case measure => decide
    · have hi := class2
      have hr : Rnd W0 (w.heap.size + 1) wr.heap.size w.heap.size n.mode 0 9 116 84 (kl ++ partL n.mode 2) (wr.alloc (copyO 0 9 116 84)) :=
        ⟨HB.out.keep (by (repeat (first | (with_reducible apply Below.setCell (hp := ?_)) | (with_reducible apply Below.alloc (hB := ?_)) | (with_reducible exact Below.refl _ _) | (simp; done) | omega))), heap_alloc_new _ _, by rw [World.cell?_alloc_old _ _ _ (by show w.heap.size ≠ wr.heap.size; omega)]; exact hc⟩
      have hlen : (kl ++ partL n.mode 2).length ≤ 20 := by rw [List.length_append, HKL.out]; exact Nat.le_of_ble_eq_true rfl
      have HL := Lib.hid hlen
      clear hlen
      have hlt2 : w.heap.size < wr.heap.size := by omega
      have HR0 := Lib.hid hr
      clear hr
      obtain ⟨y1, e1⟩ : ∃ y : ByteArray, (if bitB n.mode 2 = true then (⟨#[114]⟩ : ByteArray) else ⟨#[45]⟩) = y := ⟨_, rfl⟩
      obtain ⟨y2, e2⟩ : ∃ y : ByteArray, (if bitB n.mode 1 = true then (⟨#[119]⟩ : ByteArray) else ⟨#[45]⟩) = y := ⟨_, rfl⟩
      have HY1 := Lib.hid (show y1.data.toList = [if bitB n.mode 2 then 114 else 45] ∧ y1.size = 1 by rw [← e1]; cases bitB n.mode 2 <;> exact ⟨rfl, rfl⟩)
      have HY2 := Lib.hid (show y2.data.toList = [if bitB n.mode 1 then 119 else 45] ∧ y2.size = 1 by rw [← e2]; cases bitB n.mode 1 <;> exact ⟨rfl, rfl⟩)
      have HE1 := Lib.hid e1
      have HE2 := Lib.hid e2
      clear e1 e2
      go_wp2_with fail
      refine (setAt 2 _ rfl (by decide) _ _).mono ?_
      rintro e w' ⟨rfl, rfl⟩
      go_wp2_with fail
      refine (letter_any _ _ _ _).mono ?_
      rintro e w' ⟨rfl, rfl⟩
      rw [HE1.out]
      go_wp2_with fail
      refine (HR0.out.write (by omega) (by omega) (by have := HL.out; omega) y1 (by rw [HY1.out.2]; decide)).mono ?_
      rintro e w3 ⟨⟨v3, rfl⟩, hr3⟩
      obtain ⟨c0, c1, c2, c3, c4⟩ := hr3.cells
      have HR3 := Lib.hid hr3
      clear hr3
      go_wp2_with fail
      refine (setAt 1 _ rfl (by decide) _ _).mono ?_
      rintro e w' ⟨rfl, rfl⟩
      go_wp2_with fail
      refine (letter_any _ _ _ _).mono ?_
      rintro e w' ⟨rfl, rfl⟩
      rw [HE2.out]
      go_wp2_with fail
      refine (HR3.out.write (by omega) (by omega) (by have := HL.out; rw [List.length_append, HY1.out.1]; simp; simp at this; omega) y2 (by rw [HY2.out.2]; decide)).mono ?_
      rintro e w4 ⟨⟨v4, rfl⟩, hr4⟩
      clear c0 c1 c2 c3 c4
      obtain ⟨c0, c1, c2, c3, c4⟩ := hr4.cells
      have HR4 := Lib.hid hr4
      clear hr4
      go_wp2_with fail
      refine (last_any n.mode 0 9 116 84 _ (by decide) (by decide)).mono ?_
      rintro e w5 ⟨rfl, hb5⟩
      have HB5 := Lib.hid (HR4.out.bld.keep hb5)
      clear hb5 c0 c1 c2 c3 c4
      go_wp2_with fail
      refine (HB5.out.writeString (by have := HL.out; rw [List.length_append, List.length_append, HY1.out.1, HY2.out.1]; simp; simp at this; omega) _ (by rw [txt_size]; simp)).mono ?_
      rintro e w6 ⟨⟨v6, rfl⟩, hb6, _⟩
      have HB6 := Lib.hid hb6
      clear hb6
      go_wp2_with fail
      go_roundw
      case rel =>
        refine ⟨3, by decide, rfl, ?_⟩
        have := HB6.out
        rw [HY1.out.1, HY2.out.1, txt_list, ← HKE.out] at this
        simpa [partL, clsL] using this
      case measure => decide
    · go_wp2_with fail
      refine HB.out.string.mono ?_
      rintro e w3 ⟨rfl, hb3⟩
      go_wp2_with fail
      go_ret
      exact ⟨by rw [HR.out]; rfl, HBW.out.trans (hb3.mono (by omega))⟩
end Go.Proofs.YtknfhphhcnbndaaGreatDoor.P

namespace Go.Proofs.YtknfhphhcnbndaaGreatDoor.P
open Go.RowKit

end Go.Proofs.YtknfhphhcnbndaaGreatDoor.P

namespace Go.Proofs.YtknfhphhcnbndaaGreatDoor.P
open Go.RowKit

end Go.Proofs.YtknfhphhcnbndaaGreatDoor.P

namespace Go.Proofs.YtknfhphhcnbndaaGreatDoor.P
open Go.RowKit

end Go.Proofs.YtknfhphhcnbndaaGreatDoor.P

namespace Go.Proofs.YtknfhphhcnbndaaGreatDoor.P
open Go.RowKit

end Go.Proofs.YtknfhphhcnbndaaGreatDoor.P

namespace Go.Proofs.YtknfhphhcnbndaaGreatDoor.P
open Go.RowKit

end Go.Proofs.YtknfhphhcnbndaaGreatDoor.P
