/-
 What width.Of and the law's awake return.
 Conditions: each fact's own.
-/
import Derived.Test.YtfhagjnlliafiaaGreatDoorKWLaid
import Derived.Test.YtfhagjnlliafiaaGreatDoorKIRows
import Derived.Test.YtfhagjnlliafiaaGreatDoorKICols
import Derived.Test.YtfhagjnlliafiaaGreatDoorKSPads
import Derived.Lib.Join
set_option linter.unusedSimpArgs false
set_option linter.unusedVariables false
set_option maxHeartbeats 16000000
set_option maxRecDepth 100000
open List renaming setIfInBounds_toArray → lt, set_cons_zero → l0, set_cons_succ → ls
open Go.Act renaming put → u
namespace Go.Proofs.YtfhagjnlliafiaaGreatDoor.W
open Go.RowKit
def OfRel (s : ByteArray) (w : World) (n : Value) (w' : World) : Prop :=
 ∃ (pos : Nat) (acc : Int), w'.heap[w.heap.size]? = some (.stringIter s pos) ∧ pos ≤ s.size ∧ n = .int .i64 acc ∧ acc + wd s pos = wd s 0 ∧ 0 ≤ acc ∧ Below w.heap.size w w'
theorem iterPos_at {w : World} {k : Nat} {s : ByteArray} {pos : Nat} (h : w.heap[k]? = some (.stringIter s pos)) : w.iterPos k = pos := by
 unfold World.iterPos; rw [h]
theorem iter_round {w wr w2 : World} {s : ByteArray} {pos pos' : Nat} (hk : wr.heap[w.heap.size]? = some (.stringIter s pos)) (hb : Below w.heap.size w wr)
  (h2 : Below (wr.iterAt w.heap.size s pos').heap.size (wr.iterAt w.heap.size s pos') w2) : w2.heap[w.heap.size]? = some (.stringIter s pos') ∧ Below w.heap.size w w2 := by
 have hlt : w.heap.size < wr.heap.size := (Array.getElem?_eq_some_iff.1 hk).1
 have hsz := Lib.iterAt_size wr w.heap.size s pos'
 refine ⟨?_, (Lib.below_iterAt hb (Nat.le_refl _) s pos').trans (h2.mono (by omega))⟩
 rw [h2.block _ (by omega)]
 exact Lib.iterAt_heap wr _ s pos pos' hk
theorem of_any (s : ByteArray) (w : World) (hs : s.size ≤ 1000000) (ht : Tab w) :
  Calls Tryz.prog 52 #[.string s] w fun e w' => e = .returned (.int .i64 (wd s 0)) ∧ Below w.heap.size w w' := by
 have HT := Lib.hid ht
 have HW := Lib.hid (wd_bd s 0)
 clear ht
 go_enter Tryz.func52, Tryz.ntmps52
 go_wp2
 go_loopw [3] (OfRel s w) (fun _ w' => s.size - w'.iterPos w.heap.size)
 case atStart => exact ⟨0, 0, World.iter_heap w s 0, Nat.zero_le _, rfl, by omega, by omega, (Below.refl _ _).alloc (Nat.le_refl _) _⟩
 case round =>
  obtain ⟨pos, acc, hk, hp, rfl, hacc, h0, hb⟩ := hrel
  have HK := Lib.hid hk
  have HB := Lib.hid hb
  have HA := Lib.hid hacc
  have HT2 := Lib.hid (HT.out.keep hb)
  by_cases hlt : pos < s.size
  ·have hnx : ∀ ty, (Instr.next (.pointer (some ⟨w.heap.size, 0, none⟩)) true ty).run Tryz.prog wr = _ := fun ty => Lib.run_next_any_at wr _ s pos ty hk hlt
   clear hk hb hacc
   go_wp2_with fail
   refine (rune_any _ _ (HT.out.keep (Lib.below_iterAt HB.out (Nat.le_refl _) s (pos + (Utf8.decode s pos).2)))).mono ?_
   rintro e w2 ⟨rfl, hb2⟩
   have HR := Lib.hid (iter_round HK.out HB.out hb2)
   have HS := Lib.hid (wd_step s pos hlt)
   have hwp := Lib.decode_width_pos s pos hlt
   have hle := decode_len s pos hlt
   have hrb := runeW_bd (Utf8.decode s pos).1
   have hub : acc ≤ 2000000 := by
    have := HA.out
    have := HW.out
    have := wd_bd s pos
    omega
   clear hb2 hnx
   go_wp2
   go_roundw
   case rel =>
    refine ⟨pos + (Utf8.decode s pos).2, _, HR.out.1, hle, rfl, ?_, ?_, HR.out.2⟩
    ·have := HA.out
     have := HS.out
     omega
    ·omega
   case measure =>
    rw [iterPos_at HR.out.1, iterPos_at HK.out]
    omega
  ·have hnx : ∀ ty, (Instr.next (.pointer (some ⟨w.heap.size, 0, none⟩)) true ty).run Tryz.prog wr = _ := fun ty => Lib.run_next_end_at wr _ s pos ty hk hlt
   clear hk hb hacc
   go_wp2
   go_ret
   exact ⟨ret_int (by have := HA.out; rw [wd_end s pos hlt] at this; omega), HB.out⟩
end Go.Proofs.YtfhagjnlliafiaaGreatDoor.W
namespace Go.Proofs.YtfhagjnlliafiaaGreatDoor.I
open Go.Proofs.YtfhagjnlliafiaaGreatDoor.B
open Go.RowKit
def wideA (f : Nat → Int) : Array Value := #[.int .i64 (f 0), .int .i64 (f 1), .int .i64 (f 2), .int .i64 (f 3), .int .i64 (f 4), .int .i64 (f 5), .int .i64 (f 6), .int .i64 (f 7), .int .i64 (f 8)]
def updW (f : Nat → Int) (c : Nat) (x : Int) : Nat → Int := fun j => if j = c then x else f j
theorem wide_set (f : Nat → Int) (x : Int) {c : Nat} (hc : c < 9) : (wideA f).setIfInBounds c (.int .i64 x) = wideA (updW f c x) := by
 rcases nine_cases hc with rfl | rfl | rfl | rfl | rfl | rfl | rfl | rfl | rfl <;> rfl
theorem wide_get (f : Nat → Int) {c : Nat} (hc : c < 9) : (wideA f)[c]? = some (.int .i64 (f c)) := by
 rcases nine_cases hc with rfl | rfl | rfl | rfl | rfl | rfl | rfl | rfl | rfl <;> rfl
theorem wide_one (f : Nat → Int) : (wideA f).all (·.oneCell') = true := by simp [wideA, Value.oneCell']
theorem sizeWide : (Tryz.prog.info? 100).map (·.size) = some 9 := by kernel_rfl
theorem idx9 (r : Nat → ByteArray) {c : Nat} (hc : c < 9) (w : World) : (Instr.index 103 (.agg #[.string (r 0), .string (r 1), .string (r 2), .string (r 3), .string (r 4), .string (r 5), .string (r 6), .string (r 7), .string (r 8)]) (.int .i64 (c : Int))).run Tryz.prog w = .ok (.string (r c)) w := by
 rcases nine_cases hc with rfl | rfl | rfl | rfl | rfl | rfl | rfl | rfl | rfl
 all_goals kernel_rfl
theorem arr9 (b c : Nat) (w : World) (hc : c < 9) : (Instr.indexAt 100 (.pointer (some ⟨b, 0, none⟩)) (.int .i64 (c : Int))).run Tryz.prog w = .ok (.pointer (some ⟨b, c, none⟩)) w := by
 have hu : Tryz.prog.underlying 100 = some (.array (Tryz.prog.arrayLen 100) (Tryz.prog.elem 100)) := by kernel_rfl
 have hl : Tryz.prog.arrayLen 100 = 9 := by kernel_rfl
 have hs : ∀ W : World, (sizeOf (Tryz.prog.elem 100)).run Tryz.prog W = .ok 1 W := fun W => by kernel_rfl
 rw [run_indexAt_array _ _ _ _ _ hu, hl, if_pos ⟨by omega, by omega⟩, hs]
 show Result.ok _ w = _
 rw [Addr.add_mid, Int.toNat_natCast, Nat.mul_one, Nat.zero_add]
theorem exec_arr9 {o : Oper} {a : Act} {w : World} (x i : Operand) (ho : o.op = .indexAddr 100 x i) (b c : Nat) (hc : c < 9) (hx : a.eval x = .pointer (some ⟨b, 0, none⟩)) (hi : a.eval i = .int .i64 (c : Int)) : (execOp a.eval o).run Tryz.prog w = .ok (.value (.pointer (some ⟨b, c, none⟩))) w := by
 simp [execOp, ho, hx, hi, arr9 b c w hc, Result.andThen]
theorem wide_cell {w : World} {b c : Nat} {f : Nat → Int} {t : TypeId} {fr : Nat × Nat} (h : w.heap[b]? = some (.cells (wideA f) t fr)) (hc : c < 9) : w.cell? ⟨b, c, none⟩ = some (.int .i64 (f c)) := by
 rw [cell_of_row _ _ _ _ _ _ h]
 exact wide_get f hc
theorem wide_free {w : World} {b c : Nat} {f : Nat → Int} {t : TypeId} (h : w.heap[b]? = some (.cells (wideA f) t (0, 0))) : w.frozen? ⟨b, c, none⟩ = false := by
 unfold World.frozen?
 simp [h]
def wdI (t : ByteArray) : Int := W.wd t 0
def colW (r : Nat → ByteArray) (f : Nat → Int) (c : Nat) : Nat → Int := if numB c = true then updW f c (max (f c) (wdI (r c))) else f
def rowW (f : Nat → Int) (r : Nat → ByteArray) (c : Nat) : Nat → Int := (List.range c).foldl (colW r) f
theorem rowW_succ (f : Nat → Int) (r : Nat → ByteArray) (c : Nat) : rowW f r (c + 1) = colW r (rowW f r c) c := by
 unfold rowW
 rw [List.range_succ, List.foldl_append]
 rfl
def wideL (R : List (Nat → ByteArray)) : Nat → Int := R.foldl (fun f r => rowW f r 9) (fun _ => 0)
theorem wideL_snoc (R : List (Nat → ByteArray)) (r : Nat → ByteArray) : wideL (R ++ [r]) = rowW (wideL R) r 9 := by
 unfold wideL
 rw [List.foldl_append]
 rfl
theorem take_row {R : List (Nat → ByteArray)} {k : Nat} {r : Nat → ByteArray} (h : R[k]? = some r) : R.take (k + 1) = R.take k ++ [r] := by
 obtain ⟨hk, he⟩ := List.getElem?_eq_some_iff.1 h
 rw [List.take_succ_eq_append_getElem hk, he]
theorem row_at {R : List (Nat → ByteArray)} {w w' : World} {b g fc : Nat} (h : w.ownsRow b 103 9 (.slice (some ⟨g, 0, none⟩) R.length fc) R.length (cellsC r9 R)) (hb : Below w.heap.size w w') {i : Nat} {r : Nat → ByteArray} (hr : R[i]? = some r) : w'.rangeAt g (i * 9) [.string (r 0), .string (r 1), .string (r 2), .string (r 3), .string (r 4), .string (r 5), .string (r 6), .string (r 7), .string (r 8)] := by
 obtain ⟨a', c', e1, r1, _, _, _⟩ := RowL.of_owns r9_len (owns_to h hb)
 simp only [Value.slice.injEq] at e1
 obtain ⟨rfl, _, _⟩ := e1
 obtain ⟨g', o', e2, _, r2⟩ := r1.at_ hr
 simp only [Option.some.injEq, Addr.mk.injEq] at e2
 obtain ⟨rfl, rfl, _⟩ := e2
 rwa [Nat.zero_add] at r2
def WRel (R : List (Nat → ByteArray)) (B0 : Nat) (W3 : Nat) (w w2 : World) (v10 : Value) (wr : World) : Prop :=
 ∃ k : Nat, k ≤ R.length ∧ v10 = .int .i64 (k : Int) ∧ Hid (wr.heap[W3]? = some (.cells (wideA (wideL (R.take k))) 100 (0, 0))) ∧ Hid (wr.heap[B0]? = w2.heap[B0]?) ∧ Hid (Below w.heap.size w wr)
def CRel (f : Nat → Int) (r : Nat → ByteArray) (B0 W3 : Nat) (w w2 : World) (v15 : Value) (wr : World) : Prop :=
 ∃ c : Nat, c ≤ 9 ∧ v15 = .int .i64 (c : Int) ∧ Hid (wr.heap[W3]? = some (.cells (wideA (rowW f r c)) 100 (0, 0))) ∧ Hid (wr.heap[B0]? = w2.heap[B0]?) ∧ Hid (Below w.heap.size w wr)
theorem widest_any (R : List (Nat → ByteArray)) (ra : Option Addr) (rc b : Nat) (w : World) (HR : w.ownsRow b 103 9 (.slice ra R.length rc) R.length (cellsC r9 R)) (hl : R.length ≤ 1000) (hs : ∀ r ∈ R, ∀ c, (r c).size ≤ 1000000) (ht : W.Tab w) :
  Calls Tryz.prog 49 #[.slice ra R.length rc] w fun e w' => e = .returned (.agg (wideA (wideL R))) ∧ Below w.heap.size w w' := by
 have HOr := Lib.hid HR
 have HSz := Lib.hid hs
 have HOf := Lib.hid (fun (t : ByteArray) (h : t.size ≤ 1000000) (X : World) (hb : Below w.heap.size w X) => W.of_any t X h (ht.keep hb))
 clear HR hs ht
 go_enter Tryz.func49, Tryz.ntmps49
 go_upto_region 2 with fail
 obtain ⟨B0, hB0⟩ : ∃ B0, w.heap.size = B0 := ⟨_, rfl⟩
 obtain ⟨w2, hw2⟩ : ∃ w2, (w.alloc (.cells #[.int .i64 0, .int .i64 0, .int .i64 0, .int .i64 0, .int .i64 0, .int .i64 0, .int .i64 0, .int .i64 0, .int .i64 0] 100)).alloc (.cells #[.int .i64 0, .int .i64 0, .int .i64 0, .int .i64 0, .int .i64 0, .int .i64 0, .int .i64 0, .int .i64 0, .int .i64 0] 100) = w2 := ⟨_, rfl⟩
 have HB2 := Lib.hid (show Below w.heap.size w w2 from by rw [← hw2]; exact below_a2 _ _ _)
 have HX2 := Lib.hid (show w2.heap[B0]? = some (.cells #[.int .i64 0, .int .i64 0, .int .i64 0, .int .i64 0, .int .i64 0, .int .i64 0, .int .i64 0, .int .i64 0, .int .i64 0] 100 (0, 0)) ∧ w2.heap[B0 + 1]? = some (.cells (wideA (fun _ => 0)) 100 (0, 0)) from by
  rw [← hw2, ← hB0]
  exact two_new w _ _)
 have HLe := Lib.hid (show w.heap.size ≤ B0 ∧ w.heap.size ≤ B0 + 1 ∧ B0 + 1 ≠ B0 from ⟨by omega, by omega, by omega⟩)
 rw [hw2, hB0]
 clear hw2 hB0
 generalize B0 + 1 = W3 at HX2 HLe ⊢
 go_wp2_with fail
 go_loopw [10] (WRel R B0 W3 w w2) (fun v _ => R.length - (intOf v).toNat)
 case atStart => exact ⟨0, Nat.zero_le _, rfl, Lib.hid (by rw [List.take_zero]; exact HX2.out.2), Lib.hid rfl, HB2⟩
 case round =>
  obtain ⟨k, hk, rfl, HW, HZ, HBr⟩ := hrel
  by_cases hlt : k < R.length
  ·have d0 : decide ((k : Int) < (R.length : Int)) = true := decide_eq_true (by omega)
   obtain ⟨r, hr⟩ : ∃ r, R[k]? = some r := ⟨_, List.getElem?_eq_getElem hlt⟩
   obtain ⟨g, cg, hv, _, _⟩ := owns_some HOr.out (show 0 < R.length by omega)
   simp only [Value.slice.injEq] at hv
   obtain ⟨rfl, _, rfl⟩ := hv
   have HRg := Lib.hid (row_at HOr.out HBr.out hr)
   have HTk := Lib.hid (show wideL (R.take (k + 1)) = rowW (wideL (R.take k)) r 9 from by rw [take_row hr, wideL_snoc])
   have HSr := Lib.hid (HSz.out r (List.mem_of_getElem? hr))
   generalize wideL (R.take k) = f at HW HTk
   clear hr
   go_upto_region 5 with (refine wpList_load_mid rfl 103 (.tmp 12) rfl g (k * 9) rfl _ _ HRg.out Tryz.underlying103 rfl sizeRow ?_)
   have HA8 := Lib.hid (show Below wr.heap.size wr (wr.alloc (.cells #[.string (r 0), .string (r 1), .string (r 2), .string (r 3), .string (r 4), .string (r 5), .string (r 6), .string (r 7), .string (r 8)] 103)) from (Below.refl _ _).alloc (Nat.le_refl _) _)
   have HX8 := Lib.hid (heap_alloc_new wr (.cells #[.string (r 0), .string (r 1), .string (r 2), .string (r 3), .string (r 4), .string (r 5), .string (r 6), .string (r 7), .string (r 8)] 103))
   generalize wr.alloc (.cells _ 103) = w8 at HA8 HX8 ⊢
   have HB8 := Lib.hid (HBr.out.trans (HA8.out.mono HBr.out.size))
   have HW8 := Lib.hid ((HA8.out.block _ (heap_lt HW.out)).trans HW.out)
   have HZ8 := Lib.hid ((HA8.out.block B0 (by have h1 := heap_lt (HZ.out.trans HX2.out.1); exact h1)).trans HZ.out)
   generalize wr.heap.size = B8 at HX8 ⊢
   clear HA8 HRg HW HZ HBr
   go_wp2_with (refine wpList_load_row rfl 103 (.tmp 5) rfl B8 rfl 103 _ (0, 0) _ HX8.out Tryz.underlying103 rfl sizeRow ?_)
   clear HX8
   go_loopw [15] (CRel f r B0 W3 w w2) (fun v _ => 9 - (intOf v).toNat)
   case atStart => exact ⟨0, by omega, rfl, HW8, HZ8, HB8⟩
   case round =>
    obtain ⟨c, hc, rfl, HW, HZ, HBr⟩ := hrel
    by_cases hc9 : c < 9
    ·have d1 : decide ((c : Int) < 9) = true := decide_eq_true (by omega)
     have hidx := fun w => idx9 r hc9 w
     have HSc := Lib.hid (HSr.out c)
     have HFs := Lib.hid (rowW_succ f r c)
     generalize rowW f r c = fc at HW HFs
     go_upto_region 8 with fail
     clear hidx
     go_wp2_with fail
     refine (isNumber_any c hc9 _).mono ?_
     rintro e w9 ⟨rfl, rfl⟩
     cases hnum : numB c with
     | false =>
      have HFc := Lib.hid (show rowW f r (c + 1) = fc from by rw [HFs.out]; unfold colW; rw [hnum]; rfl)
      clear hnum
      go_wp2_with fail
      go_roundw
      case rel => exact ⟨c + 1, by omega, by simp, Lib.hid (by rw [HFc.out]; exact HW.out), HZ, HBr⟩
      case measure => simp [intOf]; omega
     | true =>
      have HFc := Lib.hid (show rowW f r (c + 1) = updW fc c (max (fc c) (wdI (r c))) from by rw [HFs.out]; unfold colW; rw [if_pos hnum])
      clear hnum
      have HOc := Lib.hid (fun (W : World) (hb : Below w.heap.size w W) => HOf.out (r c) HSc.out W hb)
      change Hid (∀ (W : World), Below w.heap.size w W → Calls Tryz.prog 52 #[.string (r c)] W fun e w' => e = .returned (.int .i64 (wdI (r c))) ∧ Below W.heap.size W w') at HOc
      generalize hrt : r c = tx at HOc HFc
      generalize wdI tx = wx at HOc HFc
      go_upto_region 9 with fail
      refine B.Till.region (z := 8) (S := fun w' => Below wr.heap.size wr w') (by kernel_rfl) ((Below.refl _ _).drew) (fun hHeld => ?_)
      refine B.Till.tz 0 (.int .i64 (c : Int)) rfl (fun w0 hS0 => ?_) ?_
      ·go_simp
      try simp only [u, lt, l0, ls]
      refine B.Till.tz 1 (.int .i64 (c : Int)) rfl (fun w0 hS0 => ?_) ?_
      ·go_simp
      try simp only [u, lt, l0, ls]
      refine B.Till.take (i := 2) (v := .pointer (some ⟨W3, c, none⟩)) rfl (by kernel_rfl) (by kernel_rfl) (by kernel_rfl) (by kernel_rfl) (fun _ _ _ h => h) (Or.inl ⟨by rfl, fun w0 hS0 => exec_arr9 (.tmp 3) (.tmp 22) rfl W3 c hc9 rfl rfl⟩) (by assumption) ?_
      try simp only [u, lt, l0, ls]
      refine B.Till.tz 3 (.int .i64 (fc c)) rfl (fun w0 hS0 => ?_) ?_
      ·have q3 : w0.cell? ⟨W3, c, none⟩ = some (.int .i64 (fc c)) := wide_cell ((hS0.block _ (heap_lt HW.out)).trans HW.out) hc9
       go_simp
      try simp only [u, lt, l0, ls]
      refine B.Till.tz 4 (.string tx) rfl (fun w0 hS0 => ?_) ?_
      ·go_simp
      try simp only [u, lt, l0, ls]
      refine B.Till.tn 5 rfl fun K hK => ?_
      go_simp
      refine (HOc.out _ (HBr.out.trans (hHeld.mono HBr.out.size))).mono ?_
      rintro e w9 ⟨rfl, hb9⟩
      have hH9 : Below wr.heap.size wr w9 := hHeld.trans (hb9.mono hHeld.size)
      clear hb9
      go_wp2_with fail
      refine hK.out _ _ (fun _ => hH9) ?_
      clear hK K
      try simp only [u, lt, l0, ls]
      refine B.Till.tz 6 (.int .i64 (max (fc c) wx)) rfl (fun w0 hS0 => ?_) ?_
      ·go_simp
      try simp only [u, lt, l0, ls]
      refine B.Till.take (i := 7) (v := .pointer (some ⟨W3, c, none⟩)) rfl (by kernel_rfl) (by kernel_rfl) (by kernel_rfl) (by kernel_rfl) (fun _ _ _ h => h) (Or.inl ⟨by rfl, fun w0 hS0 => exec_arr9 (.tmp 3) (.tmp 21) rfl W3 c hc9 rfl rfl⟩) (by assumption) ?_
      try simp only [u, lt, l0, ls]
      refine B.Till.tn 8 rfl fun K hK => ?_
      have hW9 := (hH9.block _ (heap_lt HW.out)).trans HW.out
      have q3 := wide_cell hW9 hc9
      have q4 : w9.frozen? ⟨W3, c, none⟩ = false := wide_free hW9
      have HW10 : (w9.setCell ⟨W3, c, none⟩ (.int .i64 (max (fc c) wx))).heap[W3]? = some (.cells (wideA (updW fc c (max (fc c) wx))) 100 (0, 0)) := by rw [heap_setCell_same _ _ _ _ _ _ hW9, wide_set _ _ hc9]
      have HZ10 : (w9.setCell ⟨W3, c, none⟩ (.int .i64 (max (fc c) wx))).heap[B0]? = w2.heap[B0]? := (heap_setCell_other _ _ _ _ (Ne.symm HLe.out.2.2)).trans ((hH9.block _ (heap_lt (HZ.out.trans HX2.out.1))).trans HZ.out)
      have HB10 : Below w.heap.size w (w9.setCell ⟨W3, c, none⟩ (.int .i64 (max (fc c) wx))) := (HBr.out.trans (hH9.mono HBr.out.size)).setCell (p := ⟨W3, c, none⟩) HLe.out.2.1 _
      go_simp
      refine hK.out _ _ (fun q => absurd rfl q) ?_
      clear hK K
      try simp only [u, lt, l0, ls]
      refine B.Till.done (by kernel_rfl) ?_
      go_wp2_with fail
      go_roundw
      case rel => exact ⟨c + 1, by omega, by simp, Lib.hid (by rw [HFc.out]; exact HW10), Lib.hid HZ10, Lib.hid HB10⟩
      case measure => simp [intOf]; omega
    ·obtain rfl : c = 9 := by omega
     have d1 : decide (((9 : Nat) : Int) < 9) = false := by decide
     go_wp2_with fail
     go_roundw
     case rel => exact ⟨k + 1, by omega, by simp, Lib.hid (by rw [HTk.out]; exact HW.out), HZ, HBr⟩
     case measure => simp [intOf]; omega
  ·obtain rfl : k = R.length := by omega
   have d0 : decide (((R.length : Nat) : Int) < (R.length : Int)) = false := decide_eq_false (by omega)
   rw [List.take_length] at HW
   obtain ⟨f, hf⟩ : ∃ f, wideL R = f := ⟨_, rfl⟩
   have HFf := Lib.hid hf
   rw [hf] at HW
   clear hf
   have HX0 := Lib.hid (HZ.out.trans HX2.out.1)
   go_wp2_with (first
    | (refine wpList_load_row rfl 100 (.tmp 3) rfl W3 rfl 100 _ (0, 0) _ HW.out Tryz.underlying100 rfl sizeWide ?_)
    | (refine wpList_store_row rfl 100 (.tmp 2) (.tmp 31) rfl B0 (wideA f) rfl rfl 100 _ HX0.out sizeWide rfl (wide_one f) ?_))
   refine bodyPost_ret (v := .agg (wideA f)) ?_ rfl ⟨by rw [HFf.out], below_setR HBr.out HLe.out.1 _⟩
   have hx := setRow_heap _ B0 _ (wideA f) _ _ HX0.out
   exact results_cell_row Tryz.results49 _ _ B0 _ _ _ _ rfl hx Tryz.underlying100 rfl sizeWide
end Go.Proofs.YtfhagjnlliafiaaGreatDoor.I
namespace Go.Proofs.YtfhagjnlliafiaaGreatDoor.I
open Go.Proofs.YtfhagjnlliafiaaGreatDoor.B
open Go.RowKit
def padI (t : ByteArray) (wide : Int) : ByteArray := N.blankS (N.lackN (wdI t) wide) ++ t
theorem padI_size (t : ByteArray) (wide : Int) : (padI t wide).size ≤ 10000 + t.size := by
 unfold padI
 have := N.lack_le (wdI t) wide
 rw [ByteArray.size_append, N.blankS_size]
 omega
theorem rightI_any (t : ByteArray) (a b : Int) (w : World) (ht : t.size ≤ 1000000) :
  Calls Tryz.prog 51 #[.string t, .int .i64 a, .int .i64 b] w fun e w' => e = .returned (.string (N.blankS (N.lackN a b) ++ t)) ∧ Below w.heap.size w w' := by
 have ca := N.clamp_bd a; have cb := N.clamp_bd b
 obtain ⟨C, hC⟩ : ∃ C, N.blankS (N.lackN a b) = C := ⟨_, rfl⟩
 have EB := Lib.hid (show N.blankS (N.clampZ b - N.clampZ a).toNat = C from hC)
 have hz : C.size ≤ 10000 := by rw [← hC, N.blankS_size]; exact N.lack_le a b
 have HA := Lib.hid (fun w => run_string_add_sum (P := Tryz.prog) (w := w) C t (by omega))
 rw [hC]
 clear hC hz
 go_enter Tryz.func51, Tryz.ntmps51
 go_wp2_with fail
 refine (N.place_any a b _).mono ?_
 rintro e w' ⟨rfl, rfl⟩
 go_wp2_with fail
 refine (N.blanks_any _ _ _ ca.1 ca.2 cb.1 cb.2).mono ?_
 rintro e w' ⟨rfl, hb⟩
 have HB := Lib.hid hb
 clear hb
 rw [EB.out]
 have hadd := HA.out w'
 go_wp2_with fail
 go_ret
 exact ⟨rfl, HB.out⟩
def joinI (l : List ByteArray) : ByteArray := ⟨(Lib.join (l.map fun n => n.data.toList) [32]).toArray⟩
theorem lens_le {K : Nat} : ∀ l : List ByteArray, (∀ s ∈ l, s.size ≤ K) → Lib.lens (l.map fun n => n.data.toList) ≤ l.length * K
 | [], _ => by simp [Lib.lens]
 | x :: r, h => by
  have ih := lens_le r fun s hs => h s (List.mem_cons_of_mem _ hs)
  have hx := h x List.mem_cons_self
  simp only [Lib.lens, List.map_cons, List.sum_cons, List.length_cons] at ih ⊢
  have e : x.data.toList.length = x.size := size_list x
  rw [e, Nat.add_mul]
  omega
theorem joinI_any (v : Value) (ns : List ByteArray) (b : Nat) (w : World) (H : w.ownsRow b 9 1 v ns.length (strs ns)) (hl : ns.length ≤ 9) (hz : ∀ s ∈ ns, s.size ≤ 2000000) :
  Calls Tryz.prog 53 #[v, .string ⟨#[32]⟩] w fun e w' => e = .returned (.string (joinI ns)) ∧ Below w.heap.size w w' := by
 cases ns with
 | nil =>
  obtain ⟨o, c, rfl⟩ := owns_form H
  refine (Tryz.strings_Join_none o c ⟨#[32]⟩ w).mono ?_
  rintro e w' ⟨rfl, rfl⟩
  exact ⟨rfl, Below.refl _ _⟩
 | cons x r =>
  obtain ⟨g, cap, rfl, hc, _⟩ := owns_some H (by simp)
  refine Tryz.strings_Join g 0 cap (x :: r) ⟨#[32]⟩ w (fun j y hy => ?_) (H.lt g rfl).2 (by omega) hc ?_
  ·rw [Nat.zero_add]
   refine owns_cell H ?_
   unfold strs
   rw [List.getElem?_map, hy]
   rfl
  ·have h1 := lens_le (K := 2000000) (x :: r) hz
   have h2 : (x :: r).length * 2000000 ≤ 9 * 2000000 := Nat.mul_le_mul_right _ hl
   show (Lib.join ((x :: r).map fun n => n.data.toList) [32]).length ≤ _
   rw [List.map_cons, Lib.join_length]
   rw [List.map_cons] at h1
   simp only [List.length_map, List.length_cons, List.length_nil] at h1 h2 hl ⊢
   omega
def colsI (h : Hw) (f : Nat → Int) (r : Nat → ByteArray) (c : Nat) : List ByteArray := (List.range c).filterMap fun j => if asksB h j = true then some (padI (r j) (f j)) else none
theorem colsI_succ (h : Hw) (f : Nat → Int) (r : Nat → ByteArray) (c : Nat) : colsI h f r (c + 1) = if asksB h c = true then colsI h f r c ++ [padI (r c) (f c)] else colsI h f r c := by
 unfold colsI
 rw [List.range_succ, List.filterMap_append]
 split
 ·rename_i q
  rw [List.filterMap_cons, if_pos q]
  rfl
 ·rename_i q
  rw [List.filterMap_cons, if_neg q]
  exact List.append_nil _
theorem colsI_len (h : Hw) (f : Nat → Int) (r : Nat → ByteArray) (c : Nat) : (colsI h f r c).length ≤ c := by
 have := List.length_filterMap_le (fun j => if asksB h j = true then some (padI (r j) (f j)) else none) (List.range c)
 rwa [List.length_range] at this
theorem colsI_size {h : Hw} {f : Nat → Int} {r : Nat → ByteArray} {c : Nat} (hs : ∀ c, (r c).size ≤ 1000000) : ∀ s ∈ colsI h f r c, s.size ≤ 2000000 := fun s hm => by
 obtain ⟨j, _, hj⟩ := List.mem_filterMap.1 hm
 split at hj
 ·obtain rfl := Option.some.inj hj
  have h1 := padI_size (r j) (f j)
  have h2 := hs j
  omega
 ·cases hj
def lineI (h : Hw) (f : Nat → Int) (r : Nat → ByteArray) : ByteArray := joinI (colsI h f r 9)
def linesI (h : Hw) (R : List (Nat → ByteArray)) : List ByteArray := R.map (lineI h (wideL R))
theorem infoStr : (Tryz.prog.info? 9).map (fun i => (i.zero, i.size, i.bytes)) = some (some (.string ⟨#[]⟩), 1, 16) := by kernel_rfl
theorem str_made (n : Nat) : (madeCells (Value.string ⟨#[]⟩).cells (n * 1)).toList = strs (List.replicate n ⟨#[]⟩) := by
 have : (Value.string ⟨#[]⟩).cells = #[.string ⟨#[]⟩] := rfl
 rw [this, toList_madeCells_one, Nat.mul_one]
 unfold strs
 rw [List.map_replicate]
theorem strs_set (l : List ByteArray) (i : Nat) (s : ByteArray) : (strs l).set i (.string s) = strs (l.set i s) := by
 unfold strs
 rw [List.map_set]
def LinRel (w2 : World) (gt : Nat) (A : List ByteArray) (v19 : Value) (wr : World) : Prop :=
 ∃ i : Nat, i ≤ A.length ∧ v19 = .int .i64 (i : Int) ∧ Hid (wr.ownsRow w2.heap.size 9 1 (.slice (some ⟨gt, 0, none⟩) A.length A.length) A.length (strs (setsL A ⟨#[]⟩ i))) ∧ Hid (Below w2.heap.size w2 wr)
def ColRel (h : Hw) (f : Nat → Int) (r : Nat → ByteArray) (w8 : World) (v9 v25 : Value) (wr : World) : Prop :=
 ∃ c : Nat, c ≤ 9 ∧ v25 = .int .i64 (c : Int) ∧ Hid (wr.ownsRow w8.heap.size 9 1 v9 (colsI h f r c).length (strs (colsI h f r c))) ∧ Hid (Below w8.heap.size w8 wr)
theorem aligned_any (h : Hw) (R : List (Nat → ByteArray)) (ra : Option Addr) (rc b : Nat) (w : World) (HR : w.ownsRow b 103 9 (.slice ra R.length rc) R.length (cellsC r9 R)) (hl : R.length ≤ 1000) (hs : ∀ r ∈ R, ∀ c, (r c).size ≤ 1000000) (ht : W.Tab w) :
  Calls Tryz.prog 29 #[.slice ra R.length rc, hwV h] w fun e w' => ∃ v, e = .returned v ∧ w'.ownsRow w.heap.size 9 1 v (linesI h R).length (strs (linesI h R)) ∧ Below w.heap.size w w' := by
 obtain ⟨i0, hi0, hz0, hz1, hz2⟩ := info_parts infoStr
 have HSz := Lib.hid hs
 have HWd := Lib.hid (fun (X : World) (hb : Below w.heap.size w X) => widest_any R ra rc b X (owns_to HR hb) hl hs (ht.keep hb))
 have HOf := Lib.hid (fun (t : ByteArray) (h : t.size ≤ 1000000) (X : World) (hb : Below w.heap.size w X) => W.of_any t X h (ht.keep hb))
 have HOr := Lib.hid HR
 have HAs := Lib.hid (fun (c : Nat) (hc : c < 9) (X : World) => asks_any h c hc X)
 have HLl := Lib.hid (show (linesI h R).length = R.length from List.length_map _)
 obtain ⟨f, hf⟩ : ∃ f, wideL R = f := ⟨_, rfl⟩
 have HLa := Lib.hid (show ∀ (i : Nat) (r : Nat → ByteArray), R[i]? = some r → (linesI h R)[i]? = some (lineI h f r) from fun i r hr => by unfold linesI; rw [List.getElem?_map, hr, hf]; rfl)
 rw [hf] at HWd
 unfold hwV at HAs ⊢
 clear HR hs ht hf
 generalize linesI h R = A at HLl HLa ⊢
 go_enter Tryz.func29, Tryz.ntmps29
 go_upto_region 1 with fail
 obtain ⟨B0, hB0⟩ : ∃ B0, w.heap.size = B0 := ⟨_, rfl⟩
 obtain ⟨w1, hw1⟩ : ∃ w1, w.alloc (.cells #[.int .i64 h.form, .int .i64 h.most, .int .i64 h.order, .bool h.rev, .bool h.dirs, .int .i64 h.clock, .int .i64 h.quote, .bool h.mark, .bool h.inode, .bool h.blocks, .int .i64 h.style, .string h.own, .int .i64 h.now, .int .i64 h.offset] 25) = w1 := ⟨_, rfl⟩
 have HB1 := Lib.hid (show Below w.heap.size w w1 from by rw [← hw1]; exact (Below.refl _ _).alloc (Nat.le_refl _) _)
 have HX1 := Lib.hid (show w1.heap[B0]? = some (.cells #[.int .i64 h.form, .int .i64 h.most, .int .i64 h.order, .bool h.rev, .bool h.dirs, .int .i64 h.clock, .int .i64 h.quote, .bool h.mark, .bool h.inode, .bool h.blocks, .int .i64 h.style, .string h.own, .int .i64 h.now, .int .i64 h.offset] 25) from by rw [← hw1, ← hB0]; exact heap_alloc_new _ _)
 rw [hw1, hB0]
 clear hw1 hB0
 go_wp2_with fail
 refine (HWd.out _ HB1.out).mono ?_
 rintro e w2 ⟨rfl, hb2⟩
 have HB2 := Lib.hid (below_two HB1.out hb2)
 have HX2 := Lib.hid ((hb2.block _ (heap_lt HX1.out)).trans HX1.out)
 clear hb2 HX1 HWd
 go_upto_region 2 with (refine wpList_store_row rfl 100 (.tmp 5) (.tmp 13) rfl w2.heap.size (wideA f) rfl rfl 100 _ (heap_alloc_new _ _) sizeWide rfl (wide_one f) ?_; rw [World.setRow_alloc_new])
 have HX3 := Lib.hid (show (w2.alloc (.cells (wideA f) 100)).heap[w2.heap.size]? = some (.cells (wideA f) 100 (0, 0)) ∧ (w2.alloc (.cells (wideA f) 100)).heap[B0]? = some (.cells #[.int .i64 h.form, .int .i64 h.most, .int .i64 h.order, .bool h.rev, .bool h.dirs, .int .i64 h.clock, .int .i64 h.quote, .bool h.mark, .bool h.inode, .bool h.blocks, .int .i64 h.style, .string h.own, .int .i64 h.now, .int .i64 h.offset] 25) from ⟨heap_alloc_new _ _, (heap_alloc_old _ _ (heap_lt HX2.out)).trans HX2.out⟩)
 have HB3 := Lib.hid (HB2.out.alloc HB2.out.size (.cells (wideA f) 100))
 generalize w2.alloc (.cells (wideA f) 100) = w3 at HX3 HB3 ⊢
 generalize w2.heap.size = W5 at HX3 ⊢
 clear HB2 HX2 HB1
 go_upto_region 3 with (at_make; go_loud (refine wpList_make_full _ rfl (.tmp 15) (.tmp 15) 47 rfl w3.heap.size 9 i0 _ 1 Tryz.underlying47 hi0 hz0 hz1 .i64 .i64 _ _ R.length rfl rfl rfl rfl (by rw [hz2]; omega) (by unfold maxLen; omega) (Nat.le_refl _) ?_; intro w4 hown hgrow))
 rw [str_made] at hown
 have HB4 := Lib.hid ((Below.refl w3.heap.size w3).grown hgrow (Nat.le_refl _) (fun j hj => by cases hj))
 have HO4 := Lib.hid (show w4.ownsRow w3.heap.size 9 1 (.slice (some ⟨w3.heap.size, 0, none⟩) A.length A.length) A.length (strs (setsL A ⟨#[]⟩ 0)) from by rw [sets_zero, HLl.out]; exact hown)
 clear hown hgrow
 go_wp2_with fail
 go_loopw [19] (LinRel w3 w3.heap.size A) (fun v _ => R.length - (intOf v).toNat)
 case atStart => exact ⟨0, Nat.zero_le _, rfl, HO4, HB4⟩
 case round =>
  obtain ⟨i, hi, rfl, HO, HBr⟩ := hrel
  have hAl := HLl.out
  by_cases hlt : i < R.length
  ·have d0 : decide ((i : Int) < (R.length : Int)) = true := decide_eq_true (by omega)
   obtain ⟨r, hr⟩ : ∃ r, R[i]? = some r := ⟨_, List.getElem?_eq_getElem hlt⟩
   obtain ⟨g, cg, hv, _, _⟩ := owns_some HOr.out (show 0 < R.length by omega)
   simp only [Value.slice.injEq] at hv
   obtain ⟨rfl, _, rfl⟩ := hv
   have HBw := Lib.hid (HB3.out.trans (HBr.out.mono HB3.out.size))
   have HRg := Lib.hid (row_at HOr.out HBw.out hr)
   have HLi := Lib.hid (HLa.out i r hr)
   have HSr := Lib.hid (HSz.out r (List.mem_of_getElem? hr))
   clear hr
   go_upto_region 6 with (refine wpList_load_mid rfl 103 (.tmp 22) rfl g (i * 9) rfl _ _ HRg.out Tryz.underlying103 rfl sizeRow ?_)
   have HA8 := Lib.hid (show Below wr.heap.size wr (wr.alloc (.cells #[.string (r 0), .string (r 1), .string (r 2), .string (r 3), .string (r 4), .string (r 5), .string (r 6), .string (r 7), .string (r 8)] 103)) from (Below.refl _ _).alloc (Nat.le_refl _) _)
   have HX8 := Lib.hid (heap_alloc_new wr (.cells #[.string (r 0), .string (r 1), .string (r 2), .string (r 3), .string (r 4), .string (r 5), .string (r 6), .string (r 7), .string (r 8)] 103))
   generalize wr.alloc (.cells _ 103) = w8 at HA8 HX8 ⊢
   have HB8 := Lib.hid (HBr.out.trans (HA8.out.mono HBr.out.size))
   have HO8 := Lib.hid (owns_to HO.out HA8.out)
   have HW8 := Lib.hid (HBw.out.trans (HA8.out.mono HBw.out.size))
   have HX38 := Lib.hid (show w8.heap[W5]? = some (.cells (wideA f) 100 (0, 0)) ∧ w8.heap[B0]? = some (.cells #[.int .i64 h.form, .int .i64 h.most, .int .i64 h.order, .bool h.rev, .bool h.dirs, .int .i64 h.clock, .int .i64 h.quote, .bool h.mark, .bool h.inode, .bool h.blocks, .int .i64 h.style, .string h.own, .int .i64 h.now, .int .i64 h.offset] 25) from ⟨(HB8.out.block _ (heap_lt HX3.out.1)).trans HX3.out.1, (HB8.out.block _ (heap_lt HX3.out.2)).trans HX3.out.2⟩)
   generalize wr.heap.size = B8 at HX8 ⊢
   clear HA8 HRg HO HBr HBw
   have hiA : i < A.length := by omega
   go_wp2_with (refine wpList_load_row rfl 103 (.tmp 8) rfl B8 rfl 103 _ (0, 0) _ HX8.out Tryz.underlying103 rfl sizeRow ?_)
   clear HX8
   obtain ⟨wi, rfl⟩ : ∃ wi, wi = wr := ⟨_, rfl⟩
   go_loopw [9, 25] (ColRel h f r w8) (fun _ v _ => 9 - (intOf v).toNat)
   case atStart => exact ⟨0, by omega, rfl, Lib.hid (World.ownsRow_nil _ _ _ _), Lib.hid (Below.refl _ _)⟩
   case round =>
    obtain ⟨c, hc, rfl, HC, HBc⟩ := hrel
    by_cases hc9 : c < 9
    ·have d1 : decide ((c : Int) < 9) = true := decide_eq_true (by omega)
     have hidx := fun w => idx9 r hc9 w
     have HSc := Lib.hid (HSr.out c)
     have HFs := Lib.hid (colsI_succ h f r c)
     have hcl := colsI_len h f r c
     have HXh := Lib.hid ((HBc.out.block _ (heap_lt HX38.out.2)).trans HX38.out.2)
     have HXw := Lib.hid ((HBc.out.block _ (heap_lt HX38.out.1)).trans HX38.out.1)
     generalize colsI h f r c = C at HC HFs hcl
     go_upto_region 10 with fail
     clear hidx
     go_wp2_with (refine wpList_load_row rfl 25 (.tmp 3) rfl B0 rfl 25 _ (0, 0) _ HXh.out Tryz.underlying25 rfl sizeHw ?_)
     refine (HAs.out c hc9 _).mono ?_
     rintro e w9 ⟨rfl, hb9⟩
     have HB9 := Lib.hid (HBc.out.trans (hb9.mono HBc.out.size))
     have HC9 := Lib.hid (owns_to HC.out hb9)
     have HXw9 := Lib.hid ((hb9.block _ (heap_lt HXw.out)).trans HXw.out)
     clear hb9 HBc HC HXw HXh
     cases hnum : asksB h c with
     | false =>
      have HFc := Lib.hid (show colsI h f r (c + 1) = C from by rw [HFs.out, hnum]; rfl)
      clear hnum
      go_wp2_with fail
      go_roundw
      case rel => exact ⟨c + 1, by omega, by simp, Lib.hid (by rw [HFc.out]; exact HC9.out), HB9⟩
      case measure => simp [intOf]; omega
     | true =>
      have HFc := Lib.hid (show colsI h f r (c + 1) = C ++ [N.blankS (N.lackN (wdI (r c)) (f c)) ++ r c] from by rw [HFs.out, if_pos hnum]; rfl)
      clear hnum
      have HBw9 := Lib.hid (HW8.out.trans (HB9.out.mono HW8.out.size))
      have HOc := Lib.hid (fun (X : World) (hb : Below w.heap.size w X) => HOf.out (r c) HSc.out X hb)
      change Hid (∀ (X : World), Below w.heap.size w X → Calls Tryz.prog 52 #[.string (r c)] X fun e w' => e = .returned (.int .i64 (wdI (r c))) ∧ Below X.heap.size X w') at HOc
      have HRi := Lib.hid (fun (X : World) => rightI_any (r c) (wdI (r c)) (f c) X HSc.out)
      generalize N.blankS (N.lackN (wdI (r c)) (f c)) ++ r c = px at HRi HFc
      generalize wdI (r c) = wx at HOc HRi
      generalize r c = tx at HOc HRi
      obtain ⟨ca, cc, hcv⟩ := owns_form HC9.out
      subst hcv
      go_upto_region 11 with fail
      refine B.Till.region (z := 1000) (S := fun w' => w'.heap[W5]? = w9.heap[W5]?) (by kernel_rfl) rfl (fun hHeld => ?_)
      refine B.Till.tk 0 (.slice ca C.length cc) rfl (fun w0 hS0 => ?_) ?_
      ·go_simp
      try simp only [u, lt, l0, ls]
      refine B.Till.tk 1 (.string tx) rfl (fun w0 hS0 => ?_) ?_
      ·go_simp
      try simp only [u, lt, l0, ls]
      refine B.Till.tk 2 (.string tx) rfl (fun w0 hS0 => ?_) ?_
      ·go_simp
      try simp only [u, lt, l0, ls]
      refine B.Till.tk 4 (.int .i64 (c : Int)) rfl (fun w0 hS0 => ?_) ?_
      ·go_simp
      try simp only [u, lt, l0, ls]
      refine B.Till.takeA (i := 5) (v := .pointer (some ⟨W5, c, none⟩)) rfl (by kernel_rfl) (by kernel_rfl) (by kernel_rfl) (by kernel_rfl) (fun _ _ _ h => h) (Or.inl ⟨by rfl, fun w0 hS0 => exec_arr9 (.tmp 5) (.tmp 36) rfl W5 c hc9 rfl rfl⟩) (by assumption) ?_
      try simp only [u, lt, l0, ls]
      refine B.Till.tk 6 (.int .i64 (f c)) rfl (fun w0 hS0 => ?_) ?_
      ·have q3 : w0.cell? ⟨W5, c, none⟩ = some (.int .i64 (f c)) := wide_cell (hS0.trans HXw9.out) hc9
       go_simp
      try simp only [u, lt, l0, ls]
      refine B.Till.tn 3 rfl fun K hK => ?_
      go_simp
      refine (HOc.out _ (HBw9.out.trans ((show Below w9.heap.size w9 w9.drew from (Below.refl _ _).drew).mono HBw9.out.size))).mono ?_
      rintro e w10 ⟨rfl, hb10⟩
      have hb10' : Below w9.heap.size w9 w10 := ⟨hb10.os, hb10.tape, hb10.output, hb10.size, hb10.block⟩
      have hS10 : w10.heap[W5]? = w9.heap[W5]? := hb10.block _ (heap_lt HXw9.out)
      have HC10 := Lib.hid (owns_to HC9.out hb10')
      have HB10 := Lib.hid (HB9.out.trans (hb10'.mono HB9.out.size))
      clear hb10 hb10'
      go_wp2_with fail
      refine hK.out _ _ (fun _ => hS10) ?_
      clear hK K
      try simp only [u, lt, l0, ls]
      refine B.Till.tn 7 rfl fun K hK => ?_
      go_simp
      refine (HRi.out _).mono ?_
      rintro e w11 ⟨rfl, hb11⟩
      have hS11 : w11.heap[W5]? = w9.heap[W5]? := (hb11.block _ (heap_lt (hS10.trans HXw9.out))).trans hS10
      have HC11a := Lib.hid (owns_to HC10.out hb11)
      have HB11a := Lib.hid (HB10.out.trans (hb11.mono HB10.out.size))
      clear hb11
      go_wp2_with fail
      refine hK.out _ _ (fun _ => hS11) ?_
      clear hK K
      try simp only [u, lt, l0, ls]
      refine B.Till.tn 8 rfl fun K hK => ?_
      go_simp
      have hS12 : (w11.alloc (.cells #[.string px] 9)).heap[W5]? = w9.heap[W5]? := (heap_alloc_old _ _ (heap_lt (hS11.trans HXw9.out))).trans hS11
      have HAl := Lib.hid (show Below w11.heap.size w11 (w11.alloc (.cells #[.string px] 9)) from (Below.refl _ _).alloc (Nat.le_refl _) _)
      refine hK.out _ _ (fun _ => hS12) ?_
      clear hK K
      try simp only [u, lt, l0, ls]
      refine B.Till.tn 9 rfl fun K hK => ?_
      refine step_append_lies _ rfl (.tmp 32) (.tmp 40) 47 rfl w8.heap.size 9 i0 _ 1 16 Tryz.underlying47 hi0 hz0 hz1 hz2 rfl (by decide) (.slice ca C.length cc) C.length (strs C) (by simp [Act.eval]) (owns_to HC11a.out HAl.out) ⟨w11.heap.size, 0, none⟩ 1 1 [.string px] (by simp [Act.eval]) rfl (World.news_of_block (heap_alloc_new _ _)) (by intro u hu; simp at hu; subst hu; rfl) (by decide) (by unfold maxLen; omega) (by omega) (HB11a.out.alloc HB11a.out.size _).size _ rfl ?_
      intro g11 cap11 w12 hown hgrow hat hlt1
      have hS13 : w12.heap[W5]? = w9.heap[W5]? := (hgrow.block _ (heap_lt (hS12.trans HXw9.out)) (ne_type (owns_to HC11a.out HAl.out) (hS12.trans HXw9.out) (by decide))).trans hS12
      have HC11 := Lib.hid hown
      have HB11 := Lib.hid ((HB11a.out.alloc HB11a.out.size _).grown hgrow (HB11a.out.alloc HB11a.out.size _).size (fun k e => (HC11a.out.lt k e).1))
      clear hown hgrow hat hlt1
      refine hK.out _ _ (fun _ => hS13) ?_
      clear hK K
      try simp only [u, lt, l0, ls]
      refine B.Till.tk 10 (oi := ⟨some 9, .assign (.tmp 41), 47, "list.go:195", #[⟨9, .data⟩, ⟨9, .chain⟩, ⟨0, .phase⟩, ⟨1, .phase⟩, ⟨2, .phase⟩, ⟨3, .phase⟩, ⟨4, .phase⟩, ⟨5, .phase⟩, ⟨6, .phase⟩, ⟨7, .phase⟩, ⟨8, .phase⟩, ⟨9, .phase⟩], none⟩) (.slice (some ⟨g11, 0, none⟩) (C.length + 1) cap11) rfl (fun w0 hS0 => ?_) ?_
      ·go_simp
      try simp only [u, lt, l0, ls]
      refine B.Till.done (by kernel_rfl) ?_
      go_wp2_with fail
      go_roundw
      case rel => exact ⟨c + 1, by omega, by simp, Lib.hid (by rw [HFc.out, List.length_append, strs_app]; exact HC11.out), HB11⟩
      case measure => simp [intOf]; omega
    ·obtain rfl : c = 9 := by omega
     have d1 : decide (((9 : Nat) : Int) < 9) = false := by decide
     have HJn := Lib.hid (fun (X : World) (hb : Below wr.heap.size wr X) => joinI_any _ _ _ X (owns_to HC.out hb) (colsI_len h f r 9) (colsI_size HSr.out))
     have HLn := Lib.hid (show joinI (colsI h f r 9) = lineI h f r from rfl)
     rw [HLn.out] at HJn
     obtain ⟨ca, cc, hcv⟩ := owns_form HC.out
     subst hcv
     have HOx := Lib.hid (show wr.ownsRow w3.heap.size 9 1 (.slice (some ⟨w3.heap.size, 0, none⟩) A.length A.length) A.length (strs (setsL A ⟨#[]⟩ i)) from owns_at HO8.out fun k hk => HBc.out.block k (HO8.out.lt k hk).2)
     have HBx := Lib.hid (HB8.out.trans (HBc.out.mono HB8.out.size))
     clear HC HBc HO8 HB8
     go_wp2_with fail
     refine (HJn.out _ (Below.refl _ _)).mono ?_
     rintro e w9 ⟨rfl, hb9⟩
     have HO9 := Lib.hid (owns_to HOx.out hb9)
     have HB9 := Lib.hid (HBx.out.trans (hb9.mono HBx.out.size))
     clear hb9 HJn HOx HBx
     have q3 : w9.cell? ⟨w3.heap.size, i, none⟩ = some (.string ((setsL A ⟨#[]⟩ i).getD i ⟨#[]⟩)) := owns_cell HO9.out (by
      unfold strs
      rw [List.getElem?_map, List.getD_eq_getElem?_getD, List.getElem?_eq_getElem (show i < (setsL A ⟨#[]⟩ i).length by rw [sets_len (Nat.le_of_lt hiA)]; exact hiA)]
      rfl)
     have q4 : w9.frozen? ⟨w3.heap.size, i, none⟩ = false := owns_frozen HO9.out i
     have HOn := Lib.hid (show (w9.setCell ⟨w3.heap.size, i, none⟩ (.string (lineI h f r))).ownsRow w3.heap.size 9 1 (.slice (some ⟨w3.heap.size, 0, none⟩) A.length A.length) A.length (strs (setsL A ⟨#[]⟩ (i + 1))) from by
      have := owns_setCell HO9.out (j := i) (by rw [strs_len, sets_len (Nat.le_of_lt hiA)]; exact hiA) (.string (lineI h f r))
      rwa [strs_set, sets_step HLi.out] at this)
     have HBn := Lib.hid (HB9.out.setCell (p := ⟨w3.heap.size, i, none⟩) (Nat.le_refl _) (.string (lineI h f r)))
     generalize (setsL A ⟨#[]⟩ i).getD i ⟨#[]⟩ = old at q3
     generalize lineI h f r = ln at HOn HBn ⊢
     go_wp2_with fail
     go_roundw
     case rel => exact ⟨i + 1, by omega, by simp, HOn, HBn⟩
     case measure => simp [intOf]; omega
  ·obtain rfl : i = R.length := by omega
   have d0 : decide (((R.length : Nat) : Int) < (R.length : Int)) = false := decide_eq_false (by omega)
   rw [← HLl.out, sets_all] at HO
   have HLo := Lib.hid HB3.out.size
   go_wp2_with fail
   go_ret
   exact ⟨_, rfl, by have q := owns_low HO.out HLo.out; rw [HLl.out] at q ⊢; exact q, HB3.out.trans (HBr.out.mono HB3.out.size)⟩
end Go.Proofs.YtfhagjnlliafiaaGreatDoor.I
