/-
  What the reader tells of its specs: the first one of a letter, the one that a name means. Conditions: at most 100000 specs, in memory.
  What the reader does with an argument of letters, or of a name. Conditions: at most 100000 specs, arguments and options.
  What the program's Read returns. Conditions: specs and arguments in memory, at most 1000 of each, arguments of at most 1000 bytes; the library's variable holds some number.
-/
import Derived.Test.YtknfhphhcnbndaaGreatDoorGAStep
import Derived.Test.YtknfhphhcnbndaaGreatDoorShelf
import Derived.Deep.WholeRow
import Derived.Laws.ByValue
set_option linter.unusedVariables false
set_option linter.unusedSimpArgs false
namespace Go.Proofs.YtknfhphhcnbndaaGreatDoor.A
open Go.Proofs.YtknfhphhcnbndaaGreatDoor.B
open Go.RowKit

section
variable {W0 : World} {b : Nat} {sa : Option Addr} {sc : Nat} {la : Option Addr} {lc : Nat} {L : List ByteArray} {O : List Op} {P : List ByteArray} {ov pv : Value} {w : World}
def LetRel (specs : List Sp) (c : Int) (w1 : World) (v : Value) (wr : World) : Prop := ∃ i : Nat, i ≤ specs.length ∧ v = .int .i64 (i : Int) ∧ Hid (∀ (j : Nat) (x : Sp), j < i → specs[j]? = some x → decide (x.letter = c) = false) ∧ Hid (Below w1.heap.size w1 wr)
set_option maxRecDepth 100000 in
set_option maxHeartbeats 4000000 in
theorem letter_any (specs : List Sp) (c : Int) (h : Rdr W0 b sa specs.length sc la lc L O P ov pv w) (hs : SpsL W0 sa specs) (hn : specs.length ≤ 100000) :
    Calls Tryz.prog 268 #[.pointer (some ⟨b, 0, none⟩), .int .u8 c] w fun e w' => e = .returned (spR ((findK (fun s => decide (s.letter = c)) specs 0).map (spAt specs))) ∧ Below w.heap.size w w' := by
  have HK := Lib.hid (fun W (hb : Below w.heap.size w W) => h.keep hb)
  have HSp := Lib.hid (fun W (hb : Below w.heap.size w W) => hs.keep (h.low.trans (hb.mono h.low.size)))
  have HA := Lib.hid ((Below.refl w.heap.size w).alloc (Nat.le_refl _) (.cells noSpC 254))
  have HX := Lib.hid (heap_alloc_new w (.cells noSpC 254))
  unfold noSpC at HA HX
  have c0 : ∀ o, (w.alloc o).cell? ⟨b, 0, none⟩ = some (.slice sa specs.length sc) := fun o => (h.keep ((Below.refl _ _).alloc (Nat.le_refl _) o)).cell (j := 0) rfl
  clear h hs
  go_enter Tryz.func268, Tryz.ntmps268
  go_wp2_with fail
  have HL4 := Lib.hid (heap_lt HX.out)
  generalize w.alloc (.cells #[.int .u8 0, .string ⟨#[]⟩, .bool false] 254) = w1 at HA HX HL4 ⊢
  clear c0
  go_loopw [13] (LetRel specs c w1) (fun v _ => specs.length - (intOf v).toNat)
  case atStart => exact ⟨0, Nat.zero_le _, rfl, Lib.hid (fun j x hj => by omega), Lib.hid (Below.refl _ _)⟩
  case round =>
    obtain ⟨i, hi, rfl, HNo, HB⟩ := hrel
    have HX4 := Lib.hid ((HB.out.block _ HL4.out).trans HX.out)
    by_cases hlt : i < specs.length
    · have e1 : decide ((i : Int) < (specs.length : Int)) = true := decide_eq_true (by omega)
      obtain ⟨s, hsi⟩ : ∃ s, specs[i]? = some s := ⟨_, List.getElem?_eq_getElem hlt⟩
      have HSi := Lib.hid hsi
      obtain ⟨g, o, rfl, hg, r0, r1, r2⟩ := sps_at (HSp.out wr (HA.out.trans (HB.out.mono HA.out.size))) hsi
      clear hsi hg
      go_upto_region 4 with fail
      have HBa := Lib.hid (HB.out.alloc HB.out.size (.cells #[.int .u8 s.letter, .string s.long, .bool s.value] 254))
      have HXa := Lib.hid (heap_alloc_new wr (.cells #[.int .u8 s.letter, .string s.long, .bool s.value] 254))
      generalize wr.alloc (.cells #[.int .u8 s.letter, .string s.long, .bool s.value] 254) = w2 at HBa HXa ⊢
      have HXb := Lib.hid ((HBa.out.block _ HL4.out).trans HX.out)
      clear r0 r1 r2
      have r0 : w2.cell? ⟨wr.heap.size, 0, none⟩ = some (.int .u8 s.letter) := by rw [cell_of_row _ _ _ _ _ _ HXa.out]; rfl
      have r1 : w2.cell? ⟨wr.heap.size, 1, none⟩ = some (.string s.long) := by rw [cell_of_row _ _ _ _ _ _ HXa.out]; rfl
      have r2 : w2.cell? ⟨wr.heap.size, 2, none⟩ = some (.bool s.value) := by rw [cell_of_row _ _ _ _ _ _ HXa.out]; rfl
      by_cases hc : s.letter = c
      · have e2 : (s.letter == c) = true := beq_iff_eq.2 hc
        have HF := Lib.hid (show (findK (fun s => decide (s.letter = c)) specs 0).map (spAt specs) = some s from by
          rw [find_hit (i := i) HSi.out (decide_eq_true hc) HNo.out, Option.map_some, spAt_of HSi.out])
        clear hc
        go_wp2_with (refine wpList_store_row rfl 254 (.tmp 4) (.tmp 21) rfl w.heap.size (spC s).toArray rfl rfl _ _ HXb.out sizeSp rfl (by simp [spC, Value.oneCell']) ?_)
        have HXc := Lib.hid (setRow_heap w2 w.heap.size _ (spC s).toArray _ _ HXb.out)
        refine bodyPost_ret (v := spR (some s)) ?_ rfl ⟨by rw [HF.out], below_setRow (HA.out.trans (HBa.out.mono HA.out.size)) (Nat.le_refl _) _⟩
        exact results_pair Tryz.results268 _ _ w.heap.size _ _ _ _ _ rfl rfl HXc.out Tryz.underlying254 rfl sizeSp
      · have e2 : (s.letter == c) = false := beq_eq_false_iff_ne.2 hc
        have HN := Lib.hid (show ∀ (j : Nat) (x : Sp), j < i + 1 → specs[j]? = some x → decide (x.letter = c) = false from fun j x hj hx => by
          rcases Nat.lt_or_ge j i with q | q
          · exact HNo.out j x q hx
          · obtain rfl : j = i := by omega
            rw [HSi.out] at hx
            obtain rfl := Option.some.inj hx
            exact decide_eq_false hc)
        clear hc
        go_wp2_with fail
        go_roundw
        case rel => exact ⟨i + 1, by omega, by simp, HN, HBa⟩
        case measure => simp [intOf]; omega
    · have e1 : decide ((i : Int) < (specs.length : Int)) = false := decide_eq_false (by omega)
      have HF := Lib.hid (show (findK (fun s => decide (s.letter = c)) specs 0).map (spAt specs) = none from by
        rw [find_miss (fun j x hj hx => HNo.out j x (by omega) hx), Option.map_none])
      go_wp2_with (refine wpList_store_row rfl 254 (.tmp 4) (.tmp 23) rfl w.heap.size noSpC rfl rfl _ _ HX4.out sizeSp rfl (by simp [noSpC, Value.oneCell']) ?_)
      have HXc := Lib.hid (setRow_heap wr w.heap.size _ noSpC _ _ HX4.out)
      refine bodyPost_ret (v := spR none) ?_ rfl ⟨by rw [HF.out], below_setRow (HA.out.trans (HB.out.mono HA.out.size)) (Nat.le_refl _) _⟩
      exact results_pair Tryz.results268 _ _ w.heap.size _ _ _ _ _ rfl rfl HXc.out Tryz.underlying254 rfl sizeSp

/-- What the specs' names are to a name: one has none, one is it, one begins so, one doesn't. -/
theorem name_none {s : Sp} {n : List UInt8} (h : listB s.long = []) : startsB n s = false ∧ wholeB n s = false := by
  unfold startsB wholeB
  rw [h]
  refine ⟨rfl, ?_⟩
  cases n <;> rfl
theorem name_whole {s : Sp} {n : ByteArray} (h0 : listB s.long ≠ []) (h : s.long = n) : wholeB (listB n) s = true := by
  unfold wholeB
  rw [← h]
  simp [h0]
theorem name_other {s : Sp} {n : ByteArray} (h0 : listB s.long ≠ []) (h : s.long ≠ n) : wholeB (listB n) s = false ∧ startsB (listB n) s = Lib.hasPrefix s.long.data.toList n.data.toList := by
  unfold wholeB startsB
  have : (listB s.long == listB n) = false := beq_eq_false_iff_ne.2 fun z => h (listB_inj z)
  rw [this]
  refine ⟨rfl, ?_⟩
  have e : (listB s.long).isEmpty = false := by rw [List.isEmpty_eq_false_iff]; exact h0
  rw [e]
  rfl
def NamRel (specs : List Sp) (n : List UInt8) (w : World) (v k : Value) (wr : World) : Prop := ∃ i : Nat, i ≤ specs.length ∧ k = .int .i64 (i : Int) ∧ v = .int .i64 (cntK (startsB n) specs i : Int) ∧ Hid (∀ (j : Nat) (x : Sp), j < i → specs[j]? = some x → wholeB n x = false) ∧ Hid (Below w.heap.size w wr) ∧ Hid (wr.heap[w.heap.size]? = some (.cells noSpC 254 (0, 0))) ∧ Hid (wr.heap[w.heap.size + 1]? = some (.cells (spC (lastK (startsB n) specs i)).toArray 254 (0, 0)))
set_option maxRecDepth 100000 in
set_option maxHeartbeats 8000000 in
theorem name_any (specs : List Sp) (n : ByteArray) (h : Rdr W0 b sa specs.length sc la lc L O P ov pv w) (hs : SpsL W0 sa specs) (hn : specs.length ≤ 100000) :
    Calls Tryz.prog 265 #[.pointer (some ⟨b, 0, none⟩), .string n] w fun e w' => e = .returned (spR ((meantM specs (listB n)).map (spAt specs))) ∧ Below w.heap.size w w' := by
  have HSp := Lib.hid (fun W (hb : Below w.heap.size w W) => hs.keep (h.low.trans (hb.mono h.low.size)))
  have HA := Lib.hid (((Below.refl w.heap.size w).alloc (Nat.le_refl _) (.cells noSpC 254)).alloc (by simp) (.cells noSpC 254))
  have HX := Lib.hid ((heap_alloc_old (w.alloc (.cells noSpC 254)) (.cells noSpC 254) (heap_lt (heap_alloc_new w (.cells noSpC 254)))).trans (heap_alloc_new w (.cells noSpC 254)))
  have HY := Lib.hid (heap_alloc_new (w.alloc (.cells noSpC 254)) (.cells noSpC 254))
  rw [show (w.alloc (.cells noSpC 254)).heap.size = w.heap.size + 1 by simp] at HY
  have c0 : ((w.alloc (.cells noSpC 254)).alloc (.cells noSpC 254)).cell? ⟨b, 0, none⟩ = some (.slice sa specs.length sc) := (h.keep HA.out).cell (j := 0) rfl
  unfold noSpC at HA HX HY c0
  clear h hs
  go_enter Tryz.func265, Tryz.ntmps265
  go_wp2_with fail
  generalize (w.alloc (.cells #[.int .u8 0, .string ⟨#[]⟩, .bool false] 254)).alloc (.cells #[.int .u8 0, .string ⟨#[]⟩, .bool false] 254) = w1 at HA HX HY c0 ⊢
  clear c0
  go_loopw [7, 15] (NamRel specs (listB n) w) (fun _ v _ => specs.length - (intOf v).toNat)
  case atStart => exact ⟨0, Nat.zero_le _, rfl, rfl, Lib.hid (fun j x hj => by omega), HA, HX, HY⟩
  case round =>
    obtain ⟨i, hi, rfl, rfl, HNo, HB, HX4, HX6⟩ := hrel
    have HBsz := Lib.hid (show w.heap.size + 1 < wr.heap.size from heap_lt HX6.out)
    by_cases hlt : i < specs.length
    · have e1 : decide ((i : Int) < (specs.length : Int)) = true := decide_eq_true (by omega)
      obtain ⟨s, hsi⟩ : ∃ s, specs[i]? = some s := ⟨_, List.getElem?_eq_getElem hlt⟩
      have HSi := Lib.hid hsi
      obtain ⟨g, o, rfl, hg, r0, r1, r2⟩ := sps_at (HSp.out wr HB.out) hsi
      clear hsi hg
      have hcl := cnt_le (startsB (listB n)) specs i
      go_upto_region 6 with fail
      have HBa := Lib.hid (HB.out.alloc HB.out.size (.cells #[.int .u8 s.letter, .string s.long, .bool s.value] 254))
      have HXa := Lib.hid (heap_alloc_new wr (.cells #[.int .u8 s.letter, .string s.long, .bool s.value] 254))
      have HXb := Lib.hid ((heap_alloc_old wr (.cells #[.int .u8 s.letter, .string s.long, .bool s.value] 254) (heap_lt HX4.out)).trans HX4.out)
      have HXc := Lib.hid ((heap_alloc_old wr (.cells #[.int .u8 s.letter, .string s.long, .bool s.value] 254) (heap_lt HX6.out)).trans HX6.out)
      generalize wr.alloc (.cells #[.int .u8 s.letter, .string s.long, .bool s.value] 254) = w2 at HBa HXa HXb HXc ⊢
      clear r0 r1 r2
      have r0 : w2.cell? ⟨wr.heap.size, 0, none⟩ = some (.int .u8 s.letter) := by rw [cell_of_row _ _ _ _ _ _ HXa.out]; rfl
      have r1 : w2.cell? ⟨wr.heap.size, 1, none⟩ = some (.string s.long) := by rw [cell_of_row _ _ _ _ _ _ HXa.out]; rfl
      have r2 : w2.cell? ⟨wr.heap.size, 2, none⟩ = some (.bool s.value) := by rw [cell_of_row _ _ _ _ _ _ HXa.out]; rfl
      have HNx := Lib.hid (show wholeB (listB n) s = false → ∀ (j : Nat) (x : Sp), j < i + 1 → specs[j]? = some x → wholeB (listB n) x = false from fun hw j x hj hx => by
        rcases Nat.lt_or_ge j i with q | q
        · exact HNo.out j x q hx
        · obtain rfl : j = i := by omega
          rw [HSi.out] at hx
          obtain rfl := Option.some.inj hx
          exact hw)
      by_cases h0 : s.long.size = 0
      · obtain ⟨z1, z2, z3, z4⟩ := txt_emp h0
        obtain ⟨y1, y2⟩ := name_none (n := listB n) z4
        have HC := Lib.hid (cnt_no (p := startsB (listB n)) HSi.out y1)
        have HL := Lib.hid (last_no (p := startsB (listB n)) HSi.out y1)
        have HN := Lib.hid (HNx.out y2)
        clear h0 z4 y1 y2
        go_wp2_with fail
        go_roundw
        case rel => exact ⟨i + 1, by omega, by simp, by rw [HC.out], HN, HBa, HXb, by rw [HL.out]; exact HXc⟩
        case measure => simp [intOf]; omega
      · obtain ⟨z1, z2, z3, z4, z5⟩ := txt_non (s := s.long) (by omega)
        have HZ := Lib.hid z5
        clear h0 z5
        by_cases hw : s.long = n
        · have q1 := txt_eq hw
          have HF := Lib.hid (show (meantM specs (listB n)).map (spAt specs) = some s from by
            rw [meant_whole HSi.out (name_whole HZ.out hw) HNo.out, Option.map_some, spAt_of HSi.out])
          clear hw
          go_wp2_with (refine wpList_store_row rfl 254 (.tmp 4) (.tmp 28) rfl w.heap.size (spC s).toArray rfl rfl _ _ HXb.out sizeSp rfl (by simp [spC, Value.oneCell']) ?_)
          have HXd := Lib.hid (setRow_heap w2 w.heap.size _ (spC s).toArray _ _ HXb.out)
          refine bodyPost_ret (v := spR (some s)) ?_ rfl ⟨by rw [HF.out], below_setRow HBa.out (Nat.le_refl _) _⟩
          exact results_pair Tryz.results265 _ _ w.heap.size _ _ _ _ _ rfl rfl HXd.out Tryz.underlying254 rfl sizeSp
        · obtain ⟨q1, q2, q3⟩ := txt_ne hw
          obtain ⟨y1, y2⟩ := name_other (n := n) HZ.out hw
          have HN := Lib.hid (HNx.out y1)
          have HP := Lib.hid (Tryz.strings_HasPrefix s.long n w2)
          rw [← y2] at HP
          clear hw y1 y2
          by_cases hp : startsB (listB n) s = true
          · rw [hp] at HP
            have HC := Lib.hid (cnt_yes (p := startsB (listB n)) HSi.out hp)
            have HL := Lib.hid (last_yes (p := startsB (listB n)) HSi.out hp)
            clear hp
            go_wp2_with (first
              | (go_at_call 68; refine HP.out.mono ?_; rintro e w3 ⟨rfl, hw3⟩; subst hw3)
              | (refine wpList_store_row rfl 254 (.tmp 6) (.tmp 34) rfl (w.heap.size + 1) (spC s).toArray rfl rfl _ _ HXc.out sizeSp rfl (by simp [spC, Value.oneCell']) ?_))
            go_roundw
            case rel => exact ⟨i + 1, by omega, by simp, by rw [HC.out]; go_num, HN, Lib.hid (below_setRow HBa.out (by omega) _), Lib.hid (by rw [setRow_other _ _ _ _ (by omega)]; exact HXb.out), Lib.hid (by rw [HL.out]; exact setRow_heap _ _ _ _ _ _ HXc.out)⟩
            case measure => simp [intOf]; omega
          · rw [Bool.not_eq_true] at hp
            rw [hp] at HP
            have HC := Lib.hid (cnt_no (p := startsB (listB n)) HSi.out hp)
            have HL := Lib.hid (last_no (p := startsB (listB n)) HSi.out hp)
            clear hp
            go_wp2_with (go_at_call 68; refine HP.out.mono ?_; rintro e w3 ⟨rfl, hw3⟩; subst hw3)
            go_roundw
            case rel => exact ⟨i + 1, by omega, by simp, by rw [HC.out], HN, HBa, HXb, by rw [HL.out]; exact HXc⟩
            case measure => simp [intOf]; omega
    · have e1 : decide ((i : Int) < (specs.length : Int)) = false := decide_eq_false (by omega)
      obtain rfl : i = specs.length := by omega
      have hcl := cnt_le (startsB (listB n)) specs specs.length
      by_cases h1 : cntK (startsB (listB n)) specs specs.length = 1
      · have e2 : ((cntK (startsB (listB n)) specs specs.length : Int) != 1) = false := by rw [h1]; rfl
        obtain ⟨j, hj, hsj⟩ := last_one h1
        have HF := Lib.hid (show (meantM specs (listB n)).map (spAt specs) = some (lastK (startsB (listB n)) specs specs.length) from by
          rw [meant_one HNo.out (by have := h1; unfold cntK at this; rwa [List.take_length] at this), hj, Option.map_some, hsj])
        clear h1 hj hsj
        generalize cntK (startsB (listB n)) specs specs.length = C at *
        generalize lastK (startsB (listB n)) specs specs.length = s at *
        have r0 : wr.cell? ⟨w.heap.size + 1, 0, none⟩ = some (.int .u8 s.letter) := by rw [cell_of_row _ _ _ _ _ _ HX6.out]; rfl
        have r1 : wr.cell? ⟨w.heap.size + 1, 1, none⟩ = some (.string s.long) := by rw [cell_of_row _ _ _ _ _ _ HX6.out]; rfl
        have r2 : wr.cell? ⟨w.heap.size + 1, 2, none⟩ = some (.bool s.value) := by rw [cell_of_row _ _ _ _ _ _ HX6.out]; rfl
        go_wp2_with (refine wpList_store_row rfl 254 (.tmp 4) (.tmp 41) rfl w.heap.size (spC s).toArray rfl rfl _ _ HX4.out sizeSp rfl (by simp [spC, Value.oneCell']) ?_)
        have HXd := Lib.hid (setRow_heap wr w.heap.size _ (spC s).toArray _ _ HX4.out)
        refine bodyPost_ret (v := spR (some s)) ?_ rfl ⟨by rw [HF.out], below_setRow HB.out (Nat.le_refl _) _⟩
        exact results_pair Tryz.results265 _ _ w.heap.size _ _ _ _ _ rfl rfl HXd.out Tryz.underlying254 rfl sizeSp
      · have e2 : ((cntK (startsB (listB n)) specs specs.length : Int) != 1) = true := by rw [bne_iff_ne]; omega
        have HF := Lib.hid (show (meantM specs (listB n)).map (spAt specs) = none from by
          rw [meant_none HNo.out (by have := h1; unfold cntK at this; rwa [List.take_length] at this), Option.map_none])
        clear h1
        generalize cntK (startsB (listB n)) specs specs.length = C at *
        go_wp2_with (refine wpList_store_row rfl 254 (.tmp 4) (.tmp 40) rfl w.heap.size noSpC rfl rfl _ _ HX4.out sizeSp rfl (by simp [noSpC, Value.oneCell']) ?_)
        have HXd := Lib.hid (setRow_heap wr w.heap.size _ noSpC _ _ HX4.out)
        refine bodyPost_ret (v := spR none) ?_ rfl ⟨by rw [HF.out], below_setRow HB.out (Nat.le_refl _) _⟩
        exact results_pair Tryz.results265 _ _ w.heap.size _ _ _ _ _ rfl rfl HXd.out Tryz.underlying254 rfl sizeSp
end
end Go.Proofs.YtknfhphhcnbndaaGreatDoor.A

namespace Go.Proofs.YtknfhphhcnbndaaGreatDoor.A
open Go.Proofs.YtknfhphhcnbndaaGreatDoor.B
open Go.RowKit

/-- What an option with a value makes of what is left. -/
def valM (s : Sp) (v : ByteArray) (has : Bool) (O : List Op) (P L : List ByteArray) : Option (List Op × List ByteArray × List ByteArray) :=
  if has then some (O ++ [⟨s.letter, v⟩], P, L) else match L with
    | [] => none
    | x :: r => some (O ++ [⟨s.letter, x⟩], P, r)
section
variable {W0 : World} {b : Nat} {sa : Option Addr} {sn sc : Nat} {la : Option Addr} {lc : Nat} {L : List ByteArray} {O : List Op} {P : List ByteArray} {ov pv : Value} {w : World}
set_option maxRecDepth 100000 in
set_option maxHeartbeats 4000000 in
theorem valued_any (s : Sp) (v : ByteArray) (has : Bool) (h : Rdr W0 b sa sn sc la lc L O P ov pv w) (hO : O.length ≤ 100000) (hL : L.length ≤ 100000) :
    Calls Tryz.prog 266 #[.pointer (some ⟨b, 0, none⟩), spV s, .string v, .bool has] w fun e w' => Took W0 b sa sn sc (valM s v has O P L) e w' := by
  have HK := Lib.hid (h.keep ((Below.refl _ _).alloc (Nat.le_refl _) (.cells #[.int .u8 s.letter, .string s.long, .bool s.value] 254)))
  have HX := Lib.hid (heap_alloc_new w (.cells #[.int .u8 s.letter, .string s.long, .bool s.value] 254))
  have HLt := Lib.hid (show w.heap.size ≠ b from fun e => by have := h.lt; omega)
  clear h
  have hV := Lib.hid (show spV s = .agg #[.int .u8 s.letter, .string s.long, .bool s.value] from rfl)
  rw [hV.out]
  go_enter Tryz.func266, Tryz.ntmps266
  go_upto_region 1 with fail
  generalize w.alloc (.cells #[.int .u8 s.letter, .string s.long, .bool s.value] 254) = w1 at HK HX ⊢
  generalize w.heap.size = B5 at HX HLt ⊢
  have r0 : w1.cell? ⟨B5, 0, none⟩ = some (.int .u8 s.letter) := by rw [cell_of_row _ _ _ _ _ _ HX.out]; rfl
  have r1 : w1.cell? ⟨B5, 1, none⟩ = some (.string s.long) := by rw [cell_of_row _ _ _ _ _ _ HX.out]; rfl
  have r2 : w1.cell? ⟨B5, 2, none⟩ = some (.bool s.value) := by rw [cell_of_row _ _ _ _ _ _ HX.out]; rfl
  cases has with
  | true =>
    have HS := Lib.hid (show valM s v true O P L = some (O ++ [⟨s.letter, v⟩], P, L) from rfl)
    have HAd := Lib.hid (add_any s v HK.out hO)
    rw [hV.out] at HAd
    go_wp2_with (refine HAd.out.mono ?_; rintro e w2 ⟨rfl, ov', h2⟩; have H2 := Lib.hid h2; clear h2)
    go_ret
    rw [HS.out]
    exact Took.yes H2.out
  | false =>
    cases L with
    | nil =>
      have HS := Lib.hid (show valM s v false O P [] = none from rfl)
      have c1 : w1.cell? ⟨b, 1, none⟩ = some (.slice la 0 lc) := HK.out.cell (j := 1) rfl
      go_wp2_with fail
      go_ret
      rw [HS.out]
      exact Took.no HK.out.low
    | cons x r =>
      have HS := Lib.hid (show valM s v false O P (x :: r) = some (O ++ [⟨s.letter, x⟩], P, r) from rfl)
      have c1 : w1.cell? ⟨b, 1, none⟩ = some (.slice la (r.length + 1) lc) := HK.out.cell (j := 1) rfl
      have e1 : (((r.length + 1 : Nat) : Int) == 0) = false := beq_eq_false_iff_ne.2 (by omega)
      have HNx := Lib.hid (next_any HK.out)
      have HAd := Lib.hid (fun (w2 : World) (la' : Option Addr) (lc' : Nat) (h2 : Rdr W0 b sa sn sc la' lc' r O P ov pv w2) => add_any s x h2 hO)
      rw [hV.out] at HAd
      go_wp2_with (go_at_call 163; refine HNx.out.mono ?_; rintro e w2 ⟨rfl, ⟨la', lc', h2⟩, hk⟩; clear r0 r1 r2 c1; have r0 : w2.cell? ⟨B5, 0, none⟩ = some (.int .u8 s.letter) := (by rw [cell_of_row _ _ _ _ _ _ ((hk B5 HLt.out).trans HX.out)]; rfl); have r1 : w2.cell? ⟨B5, 1, none⟩ = some (.string s.long) := (by rw [cell_of_row _ _ _ _ _ _ ((hk B5 HLt.out).trans HX.out)]; rfl); have r2 : w2.cell? ⟨B5, 2, none⟩ = some (.bool s.value) := (by rw [cell_of_row _ _ _ _ _ _ ((hk B5 HLt.out).trans HX.out)]; rfl); have H2 := Lib.hid h2; clear hk h2)
      refine (HAd.out _ _ _ H2.out).mono ?_
      rintro e w3 ⟨rfl, ov', h3⟩
      have H3 := Lib.hid h3
      clear h3
      go_wp2_with fail
      go_ret
      rw [HS.out]
      exact Took.yes H3.out

def LtsRel (W0 : World) (b : Nat) (sa : Option Addr) (sn sc : Nat) (specs : List Sp) (l : List UInt8) (L : List ByteArray) (O : List Op) (P : List ByteArray) (v : Value) (wr : World) : Prop :=
  ∃ (i : Nat) (O1 : List Op), 1 ≤ i ∧ i ≤ l.length + 1 ∧ O1.length + 1 = i ∧ v = .int .i64 (i : Int) ∧ Hid (lettersM specs l = (lettersM specs (l.drop (i - 1))).mores O1) ∧ Hid (∃ la lc ov pv, Rdr W0 b sa sn sc la lc L (O ++ O1) P ov pv wr)
set_option maxRecDepth 100000 in
set_option maxHeartbeats 8000000 in
theorem letters_any (specs : List Sp) (a : ByteArray) (l : List UInt8) (hl : listB a = 45 :: l) (h : Rdr W0 b sa specs.length sc la lc L O P ov pv w) (hs : SpsL W0 sa specs) (hn : specs.length ≤ 100000) (ha : a.size ≤ 1000) (hO : O.length ≤ 50000) (hL : L.length ≤ 100000) :
    Calls Tryz.prog 221 #[.pointer (some ⟨b, 0, none⟩), .string a] w fun e w' => Took W0 b sa specs.length sc (stepM (ltK (lettersM specs l)) a O P L) e w' := by
  have hsz : a.size = l.length + 1 := by rw [← listB_len, hl]; rfl
  have HLi := Lib.hid hl
  have HSp := Lib.hid hs
  have H0 := Lib.hid h
  have HSz := Lib.hid hsz
  clear h hs hl hsz
  go_enter Tryz.func221, Tryz.ntmps221
  go_wp2_with fail
  go_loopw [5] (LtsRel W0 b sa specs.length sc specs l L O P) (fun v _ => l.length + 1 - (intOf v).toNat)
  case atStart => exact ⟨1, [], Nat.le_refl _, by omega, rfl, rfl, Lib.hid (by rw [mores_nil]; rfl), Lib.hid ⟨_, _, _, _, by rw [List.append_nil]; exact H0.out⟩⟩
  case round =>
    obtain ⟨i, O1, hi1, hi2, hO1, rfl, HM, HR⟩ := hrel
    obtain ⟨la1, lc1, ov1, pv1, hr⟩ := HR.out
    have HRr := Lib.hid hr
    clear hr HR
    by_cases hlt : i < a.size
    · have e1 : decide ((i : Int) < (a.size : Int)) = true := decide_eq_true (by omega)
      have hil : i - 1 < l.length := by have := HSz.out; omega
      obtain ⟨c, hc⟩ : ∃ c, a[i]'hlt = c := ⟨_, rfl⟩
      have hcl : l.drop (i - 1) = c :: l.drop i := by
        rw [drop_at hil, show i - 1 + 1 = i by omega]
        have h1 : (listB a)[i]? = some (a[i]'hlt) := list_at hlt
        rw [HLi.out, hc, show i = (i - 1) + 1 by omega, List.getElem?_cons_succ, List.getElem?_eq_getElem hil] at h1
        rw [Option.some.inj h1]
      rw [hcl] at HM
      have HLe := Lib.hid (fun (W : World) (hb : Below wr.heap.size wr W) => letter_any specs (c.toNat : Int) (HRr.out.keep hb) HSp.out hn)
      have HV := Lib.hid (fun (v : ByteArray) (has : Bool) (s : Sp) (W : World) (hb : Below wr.heap.size wr W) => valued_any s v has (HRr.out.keep hb) (by rw [List.length_append]; omega) hL)
      have HAd := Lib.hid (fun (s : Sp) (W : World) (hb : Below wr.heap.size wr W) => add_any s ⟨#[]⟩ (HRr.out.keep hb) (by rw [List.length_append]; omega))
      have HLw := Lib.hid HRr.out.low
      clear hcl
      rcases hk : letterM specs c with _ | k
      · have HS := Lib.hid (show stepM (ltK (lettersM specs l)) a O P L = none from by rw [HM.out, letters_bad hk]; rfl)
        have hk2 : (findK (fun s => decide (s.letter = (c.toNat : Int))) specs 0).map (spAt specs) = none := by
          have : findK (fun s => decide (s.letter = (c.toNat : Int))) specs 0 = none := hk
          rw [this]; rfl
        rw [hk2] at HLe
        clear hk hk2
        unfold spR at HLe
        simp only [Option.getD_none, Option.isSome_none] at HLe
        unfold spV noSp at HLe
        go_wp2_with (go_at_call 268; refine (HLe.out _ (Below.refl _ _)).mono ?_; rintro e w2 ⟨rfl, hb2⟩; have HB2 := Lib.hid hb2; clear hb2)
        go_ret
        rw [HS.out]
        exact Took.no (HLw.out.trans (((HB2.out.alloc HB2.out.size _).mono HLw.out.size)))
      · obtain ⟨s, hsk⟩ : ∃ s, spAt specs k = s := ⟨_, rfl⟩
        have hsl : s.letter = (c.toNat : Int) := by rw [← hsk]; exact letter_is hk
        have hk2 : (findK (fun s => decide (s.letter = (c.toNat : Int))) specs 0).map (spAt specs) = some s := by
          have : findK (fun s => decide (s.letter = (c.toNat : Int))) specs 0 = some k := hk
          rw [this, Option.map_some, hsk]
        rw [hk2] at HLe
        unfold spR at HLe
        simp only [Option.getD_some, Option.isSome_some] at HLe
        have HSl := Lib.hid hsl
        have HKk := Lib.hid hk
        have HSk := Lib.hid hsk
        clear hk2 hsl hk hsk
        have hV := Lib.hid (show spV s = .agg #[.int .u8 s.letter, .string s.long, .bool s.value] from rfl)
        rw [hV.out] at HLe
        rcases hv : s.value with _ | _
        · rw [hv] at HLe
          have HMo := Lib.hid (show lettersM specs l = (lettersM specs (l.drop i)).mores (O1 ++ [⟨s.letter, ⟨#[]⟩⟩]) from by
            rw [HM.out, letters_more HKk.out (by rw [HSk.out, hv]), mores_more, HSl.out]; rfl)
          have HAs := Lib.hid (HAd.out s)
          rw [hV.out, hv] at HAs
          clear hv
          go_wp2_with (go_at_call 268; refine (HLe.out _ (Below.refl _ _)).mono ?_; rintro e w2 ⟨rfl, hb2⟩; have HB2 := Lib.hid hb2; clear hb2)
          refine (HAs.out _ (HB2.out.alloc HB2.out.size _)).mono ?_
          rintro e w3 ⟨rfl, ov3, h3⟩
          rw [List.append_assoc] at h3
          have H3 := Lib.hid h3
          clear h3
          go_wp2_with fail
          go_roundw
          case rel => exact ⟨i + 1, O1 ++ [⟨s.letter, ⟨#[]⟩⟩], by omega, by have := HSz.out; omega, by rw [List.length_append]; show O1.length + 1 + 1 = _; omega, by simp, Lib.hid (by rw [HMo.out, Nat.add_sub_cancel]), Lib.hid ⟨_, _, _, _, H3.out⟩⟩
          case measure => simp [intOf]; omega
        · rw [hv] at HLe
          have hex : a.extract (i + 1) a.size = byL (l.drop i) := by
            rw [ext_byL HLi.out]; rfl
          have HE := Lib.hid hex
          clear hex
          have HVs := Lib.hid (fun v has => HV.out v has s)
          rw [hV.out, hv] at HVs
          have HKv := Lib.hid (show (spAt specs k).value = true from by rw [HSk.out, hv])
          clear hv
          go_upto_region 9 with (go_at_call 268; refine (HLe.out _ (Below.refl _ _)).mono ?_; rintro e w2 ⟨rfl, hb2⟩; have HB2 := Lib.hid hb2; clear hb2)
          rw [HE.out]
          have HBa := Lib.hid (HB2.out.alloc HB2.out.size (.cells #[.int .u8 s.letter, .string s.long, .bool true] 254))
          by_cases hr : l.drop i = []
          · have HS := Lib.hid (show stepM (ltK (lettersM specs l)) a O P L = valM s (byL (l.drop i)) false (O ++ O1) P L from by
              rw [HM.out, hr, letters_next HKk.out HKv.out]
              unfold valM
              rw [if_neg (by simp)]
              cases L with
              | nil => rfl
              | cons x r => simp [Lt.mores, ltK, stepM, HSl.out])
            obtain ⟨z1, z2, z3, _⟩ := txt_emp (s := byL (l.drop i)) (by rw [hr]; rfl)
            clear hr
            generalize byL (l.drop i) = R at *
            go_wp2_with fail
            refine (HVs.out R false _ HBa.out).mono ?_
            intro e w3 h3
            rw [← HS.out] at h3
            obtain ⟨rfl, h3⟩ := h3.is
            have H3 := Lib.hid h3
            clear h3
            go_wp2_with fail
            go_ret
            exact H3.out
          · have HS := Lib.hid (show stepM (ltK (lettersM specs l)) a O P L = valM s (byL (l.drop i)) true (O ++ O1) P L from by
              rw [HM.out, letters_last HKk.out HKv.out hr]
              unfold valM
              rw [if_pos rfl]
              simp [Lt.mores, ltK, stepM, HSl.out])
            obtain ⟨z1, z2, z3, z4, _⟩ := txt_non (s := byL (l.drop i)) (by rw [← listB_len, listB_byL]; exact List.length_pos_iff.2 hr)
            clear hr
            generalize byL (l.drop i) = R at *
            go_wp2_with fail
            refine (HVs.out R true _ HBa.out).mono ?_
            intro e w3 h3
            rw [← HS.out] at h3
            obtain ⟨rfl, h3⟩ := h3.is
            have H3 := Lib.hid h3
            clear h3
            go_wp2_with fail
            go_ret
            exact H3.out
    · have e1 : decide ((i : Int) < (a.size : Int)) = false := decide_eq_false (by omega)
      have HS := Lib.hid (show stepM (ltK (lettersM specs l)) a O P L = some (O ++ O1, P, L) from by
        rw [HM.out, List.drop_eq_nil_of_le (by have := HSz.out; omega), letters_nil]
        simp [Lt.mores, ltK, stepM])
      go_wp2_with fail
      go_ret
      rw [HS.out]
      exact Took.yes HRr.out

set_option maxRecDepth 100000 in
set_option maxHeartbeats 8000000 in
theorem long_any (specs : List Sp) (a : ByteArray) (r : List UInt8) (hl : listB a = 45 :: 45 :: r) (h : Rdr W0 b sa specs.length sc la lc L O P ov pv w) (hs : SpsL W0 sa specs) (hm : MaxT W0) (hn : specs.length ≤ 100000) (ha : a.size ≤ 1000) (hO : O.length ≤ 50000) (hL : L.length ≤ 100000) :
    Calls Tryz.prog 220 #[.pointer (some ⟨b, 0, none⟩), .string a] w fun e w' => Took W0 b sa specs.length sc (stepM (longM specs r) a O P L) e w' := by
  have hsz : a.size = r.length + 2 := by rw [← listB_len, hl]; rfl
  obtain ⟨m, hm2⟩ := hm.keep h.low
  have hex : a.extract 2 a.size = byL r := by rw [ext_byL hl]; rfl
  have hrs : (byL r).size = r.length := by rw [← listB_len, listB_byL]
  have HE := Lib.hid hex
  have HLw := Lib.hid h.low
  have HLi := Lib.hid hl
  have HN := Lib.hid (fun (n : ByteArray) (W : World) (hb : Below w.heap.size w W) => name_any specs n (h.keep hb) hs hn)
  have HV := Lib.hid (fun (v : ByteArray) (has : Bool) (s : Sp) (W : World) (hb : Below w.heap.size w W) => valued_any s v has (h.keep hb) (by omega) hL)
  have HAd := Lib.hid (fun (s : Sp) (W : World) (hb : Below w.heap.size w W) => add_any s ⟨#[]⟩ (h.keep hb) (by omega))
  have HC := Lib.hid (Tryz.strings_Cut (byL r) ⟨#[61]⟩ m w (by omega) hm2)
  have hcr : Lib.cut (byL r).data.toList (⟨#[61]⟩ : ByteArray).data.toList = Lib.cut r [61] := rfl
  rw [hcr] at HC
  have h2 : (2 : Int) ≤ (a.size : Int) := by omega
  clear h hs hl hm hm2 hex hsz hrs hcr
  -- the name, the value, whether there is one
  obtain ⟨nm, vl, has, hcut, hnm, hvl⟩ : ∃ nm vl has, Lib.cut r [61] = (nm, vl, has) ∧ nm = nameL r ∧ ((has = true ∧ eqAt r < r.length ∧ vl = r.drop (eqAt r + 1)) ∨ (has = false ∧ eqAt r = r.length)) := by
    by_cases q : eqAt r < r.length
    · exact ⟨_, _, _, cut_yes q, rfl, .inl ⟨rfl, q, rfl⟩⟩
    · have q2 : eqAt r = r.length := by have := eqAt_le r; omega
      exact ⟨_, _, _, cut_no q2, (name_all q2).symm, .inr ⟨rfl, q2⟩⟩
  rw [hcut] at HC
  dsimp only at HC
  have HNm := Lib.hid hnm
  have HVl := Lib.hid hvl
  clear hcut hnm hvl
  have HNn := Lib.hid (fun W hb => by
    have := HN.out (byL nm) W hb
    rw [show meantM specs (listB (byL nm)) = meantM specs (nameL r) from by rw [listB_byL, HNm.out]] at this
    exact this)
  rw [show (⟨nm.toArray⟩ : ByteArray) = byL nm from rfl, show (⟨vl.toArray⟩ : ByteArray) = byL vl from rfl] at HC
  clear HN HNm
  generalize byL nm = NM at HC HNn
  go_enter Tryz.func220, Tryz.ntmps220
  rcases hk : meantM specs (nameL r) with _ | k
  · have HS := Lib.hid (show stepM (longM specs r) a O P L = none from by rw [long_bad hk]; rfl)
    rw [hk] at HNn
    unfold spR at HNn
    simp only [Option.map_none, Option.getD_none, Option.isSome_none] at HNn
    unfold spV noSp at HNn
    clear hk
    go_wp2_with (first
      | (go_at_call 264; rw [HE.out]; refine HC.out.mono ?_; rintro e w2 ⟨rfl, md, hw2⟩; have HB2 := Lib.hid (show Below w.heap.size w w2 from by rw [hw2]; exact below_drewNb (Below.refl _ _)); clear hw2)
      | (go_at_call 265; refine (HNn.out _ HB2.out).mono ?_; rintro e w3 ⟨rfl, hb3⟩; have HB3 := Lib.hid (below_two HB2.out hb3); clear hb3))
    go_ret
    rw [HS.out]
    exact Took.no (HLw.out.trans ((HB3.out.alloc HB3.out.size _).mono HLw.out.size))
  · obtain ⟨s, hsk⟩ : ∃ s, spAt specs k = s := ⟨_, rfl⟩
    rw [hk] at HNn
    unfold spR at HNn
    simp only [Option.map_some, hsk, Option.getD_some, Option.isSome_some] at HNn
    have hV := Lib.hid (show spV s = .agg #[.int .u8 s.letter, .string s.long, .bool s.value] from rfl)
    have HKk := Lib.hid hk
    have HSk := Lib.hid hsk
    clear hk hsk
    rcases hv : s.value with _ | _
    · have HAs := Lib.hid (HAd.out s)
      rw [hV.out, hv] at HNn HAs
      have HS := Lib.hid (show stepM (longM specs r) a O P L = if has then none else some (O ++ [⟨s.letter, ⟨#[]⟩⟩], P, L) from by
        rcases HVl.out with ⟨rfl, q, rfl⟩ | ⟨rfl, q⟩
        · rw [long_much HKk.out q (by rw [HSk.out, hv])]
          rfl
        · rw [long_plain HKk.out q (by rw [HSk.out, hv]), HSk.out]
          rfl)
      clear hv
      go_wp2_with (first
        | (go_at_call 264; rw [HE.out]; refine HC.out.mono ?_; rintro e w2 ⟨rfl, md, hw2⟩; have HB2 := Lib.hid (show Below w.heap.size w w2 from by rw [hw2]; exact below_drewNb (Below.refl _ _)); clear hw2)
        | (go_at_call 265; refine (HNn.out _ HB2.out).mono ?_; rintro e w3 ⟨rfl, hb3⟩; have HB3 := Lib.hid (below_two HB2.out hb3); clear hb3))
      refine (HAs.out _ (HB3.out.alloc HB3.out.size _)).mono ?_
      rintro e w4 ⟨rfl, ov4, h4⟩
      have H4 := Lib.hid h4
      clear h4
      cases has with
      | true =>
        go_wp2_with fail
        go_ret
        rw [HS.out, if_pos (by simp)]
        exact Took.no H4.out.low
      | false =>
        go_wp2_with fail
        go_ret
        rw [HS.out, if_neg (by simp)]
        exact Took.yes H4.out
    · have HVs := Lib.hid (HV.out (byL vl) has s)
      rw [hV.out, hv] at HNn HVs
      have HS := Lib.hid (show stepM (longM specs r) a O P L = valM s (byL vl) has O P L from by
        rcases HVl.out with ⟨rfl, q, rfl⟩ | ⟨rfl, q⟩
        · rw [long_given HKk.out q (by rw [HSk.out, hv]), HSk.out]
          rfl
        · rw [long_next HKk.out q (by rw [HSk.out, hv]), HSk.out]
          cases L <;> rfl)
      clear hv
      go_wp2_with (first
        | (go_at_call 264; rw [HE.out]; refine HC.out.mono ?_; rintro e w2 ⟨rfl, md, hw2⟩; have HB2 := Lib.hid (show Below w.heap.size w w2 from by rw [hw2]; exact below_drewNb (Below.refl _ _)); clear hw2)
        | (go_at_call 265; refine (HNn.out _ HB2.out).mono ?_; rintro e w3 ⟨rfl, hb3⟩; have HB3 := Lib.hid (below_two HB2.out hb3); clear hb3))
      refine (HVs.out _ (HB3.out.alloc HB3.out.size _)).mono ?_
      intro e w4 h4
      rw [← HS.out] at h4
      obtain ⟨rfl, h4⟩ := h4.is
      have H4 := Lib.hid h4
      clear h4
      go_wp2_with fail
      go_ret
      exact H4.out
end
end Go.Proofs.YtknfhphhcnbndaaGreatDoor.A

namespace Go.Proofs.YtknfhphhcnbndaaGreatDoor.A
open Go.Proofs.YtknfhphhcnbndaaGreatDoor.B
open Go.RowKit

/-- Which of the reader's methods takes an argument. -/
def takerF (l : List UInt8) : FuncId := if l = [45, 45] then 219 else if Lib.hasPrefix l [45, 45] = true then 220 else if Lib.hasPrefix l [45] = true ∧ l ≠ [45] then 221 else 222
theorem cst_eq {a : ByteArray} {l : List UInt8} (h : listB a = l) : a.toList = l := by rw [Lib.toList_data]; exact h
theorem taker_any (a : ByteArray) (b : Nat) (w : World) :
    Calls Tryz.prog 164 #[.pointer (some ⟨b, 0, none⟩), .string a] w fun e w' => e = .returned (.func (.func (takerF (listB a))) #[.pointer (some ⟨b, 0, none⟩)] #[]) ∧ w' = w := by
  have hmf : ∀ (fn : Fn) (first cap : Array Value) (w : World), (Instr.makeFunc fn first cap).run Tryz.prog w = .ok (.func fn first cap) w := fun _ _ _ _ => rfl
  have HP2 := Lib.hid (Tryz.strings_HasPrefix a ⟨#[45, 45]⟩ w)
  have HP1 := Lib.hid (Tryz.strings_HasPrefix a ⟨#[45]⟩ w)
  rw [show Lib.hasPrefix a.data.toList (⟨#[45, 45]⟩ : ByteArray).data.toList = Lib.hasPrefix (listB a) [45, 45] from rfl] at HP2
  rw [show Lib.hasPrefix a.data.toList (⟨#[45]⟩ : ByteArray).data.toList = Lib.hasPrefix (listB a) [45] from rfl] at HP1
  by_cases h1 : listB a = [45, 45]
  · have e1 : (a.toList == [45, 45]) = true := by rw [cst_eq h1]; rfl
    have HT := Lib.hid (show takerF (listB a) = 219 from by unfold takerF; rw [if_pos h1])
    clear h1
    go_enter Tryz.func164, Tryz.ntmps164
    go_wp2_with fail
    go_ret
    exact ⟨by rw [HT.out]; rfl, rfl⟩
  · have e1 : (a.toList == [45, 45]) = false := beq_eq_false_iff_ne.2 fun z => h1 (by rw [Lib.toList_data] at z; exact z)
    by_cases h2 : Lib.hasPrefix (listB a) [45, 45] = true
    · rw [h2] at HP2
      have HT := Lib.hid (show takerF (listB a) = 220 from by unfold takerF; rw [if_neg h1, if_pos h2])
      clear h1 h2
      go_enter Tryz.func164, Tryz.ntmps164
      go_wp2_with (go_at_call 68; (first | with_reducible (refine HP2.out.mono ?_) | with_reducible (refine HP1.out.mono ?_)); rintro e w3 ⟨rfl, hw3⟩; subst hw3)
      go_ret
      exact ⟨by rw [HT.out]; rfl, rfl⟩
    · have h2' := h2
      rw [Bool.not_eq_true] at h2'
      rw [h2'] at HP2
      by_cases h3 : Lib.hasPrefix (listB a) [45] = true
      · rw [h3] at HP1
        by_cases h4 : listB a = [45]
        · have e2 : (a.toList != [45]) = false := by rw [cst_eq h4]; rfl
          have e3 : a.toList = [45] := cst_eq h4
          have HT := Lib.hid (show takerF (listB a) = 222 from by unfold takerF; rw [if_neg h1, if_neg h2, if_neg (fun z => z.2 h4)])
          clear h1 h2 h2' h3 h4
          go_enter Tryz.func164, Tryz.ntmps164
          go_wp2_with (go_at_call 68; (first | with_reducible (refine HP2.out.mono ?_) | with_reducible (refine HP1.out.mono ?_)); rintro e w3 ⟨rfl, hw3⟩; subst hw3)
          go_ret
          exact ⟨by rw [HT.out]; rfl, rfl⟩
        · have e3 : a.toList ≠ [45] := fun z => h4 (by rw [Lib.toList_data] at z; exact z)
          have e2 : (a.toList == [45]) = false := beq_eq_false_iff_ne.2 e3
          have HT := Lib.hid (show takerF (listB a) = 221 from by unfold takerF; rw [if_neg h1, if_neg h2, if_pos ⟨h3, h4⟩])
          clear h1 h2 h2' h3 h4
          go_enter Tryz.func164, Tryz.ntmps164
          go_wp2_with (go_at_call 68; (first | with_reducible (refine HP2.out.mono ?_) | with_reducible (refine HP1.out.mono ?_)); rintro e w3 ⟨rfl, hw3⟩; subst hw3)
          go_ret
          exact ⟨by rw [HT.out]; rfl, rfl⟩
      · have h3' := h3
        rw [Bool.not_eq_true] at h3'
        rw [h3'] at HP1
        have HT := Lib.hid (show takerF (listB a) = 222 from by unfold takerF; rw [if_neg h1, if_neg h2, if_neg (fun z => h3 z.1)])
        clear h1 h2 h2' h3 h3'
        go_enter Tryz.func164, Tryz.ntmps164
        go_wp2_with (go_at_call 68; (first | with_reducible (refine HP2.out.mono ?_) | with_reducible (refine HP1.out.mono ?_)); rintro e w3 ⟨rfl, hw3⟩; subst hw3)
        go_ret
        exact ⟨by rw [HT.out]; rfl, rfl⟩

theorem taker_enters (l : List UInt8) : ∀ args w, (callFunc (takerF l) args).run Tryz.prog w = .ok (.enter (takerF l) args) w := by
  unfold takerF
  by_cases h1 : l = [45, 45]
  · rw [if_pos h1]; exact enters_of Tryz.func219 (by kernel_rfl) rfl
  · rw [if_neg h1]
    by_cases h2 : Lib.hasPrefix l [45, 45] = true
    · rw [if_pos h2]; exact enters_of Tryz.func220 (by kernel_rfl) rfl
    · rw [if_neg h2]
      by_cases h3 : Lib.hasPrefix l [45] = true ∧ l ≠ [45]
      · rw [if_pos h3]; exact enters_of Tryz.func221 (by kernel_rfl) rfl
      · rw [if_neg h3]; exact enters_of Tryz.func222 (by kernel_rfl) rfl
section
variable {W0 : World} {b : Nat} {sa : Option Addr} {sn sc : Nat} {la : Option Addr} {lc : Nat} {L : List ByteArray} {O : List Op} {P : List ByteArray} {ov pv : Value} {w : World}
theorem take_any (specs : List Sp) (a : ByteArray) (h : Rdr W0 b sa specs.length sc la lc L O P ov pv w) (hs : SpsL W0 sa specs) (hm : MaxT W0) (hn : specs.length ≤ 100000) (ha : a.size ≤ 1000) (hO : O.length ≤ 50000) (hP : P.length + L.length ≤ 50000) :
    Calls Tryz.prog (takerF (listB a)) #[.pointer (some ⟨b, 0, none⟩), .string a] w fun e w' => Took W0 b sa specs.length sc (stepM (kindA specs a) a O P L) e w' := by
  unfold takerF kindA
  by_cases h1 : listB a = [45, 45]
  · rw [if_pos h1, h1]
    exact end_any a h (by omega)
  · rw [if_neg h1]
    by_cases h2 : Lib.hasPrefix (listB a) [45, 45] = true
    · rw [if_pos h2]
      obtain ⟨r, hr⟩ : ∃ r, listB a = 45 :: 45 :: r := by
        unfold Lib.hasPrefix at h2
        obtain ⟨r, hr⟩ := List.isPrefixOf_iff_prefix.1 h2
        exact ⟨r, hr.symm⟩
      rw [hr, kind_long (fun z => h1 (by rw [hr, z]))]
      exact long_any specs a r hr h hs hm hn ha hO (by omega)
    · rw [if_neg h2]
      by_cases h3 : Lib.hasPrefix (listB a) [45] = true ∧ listB a ≠ [45]
      · rw [if_pos h3]
        obtain ⟨c, r, hr, hc⟩ : ∃ c r, listB a = 45 :: c :: r ∧ c ≠ 45 := by
          obtain ⟨h3, h4⟩ := h3
          unfold Lib.hasPrefix at h3
          obtain ⟨r, hr⟩ := List.isPrefixOf_iff_prefix.1 h3
          cases r with
          | nil => exact absurd hr.symm h4
          | cons c r =>
            refine ⟨c, r, hr.symm, ?_⟩
            rintro rfl
            exact h2 (by unfold Lib.hasPrefix; rw [← hr]; exact List.isPrefixOf_iff_prefix.2 ⟨r, rfl⟩)
        rw [hr, kind_letters hc]
        exact letters_any specs a (c :: r) hr h hs hn ha hO (by omega)
      · rw [if_neg h3]
        have hk : kindL specs (listB a) = .operand := by
          unfold kindL
          split
          · rfl
          · rfl
          · rename_i x c r e
            rw [if_pos]
            rintro rfl
            exact h3 ⟨by rw [e]; rfl, by rw [e]; simp⟩
        rw [hk]
        exact operand_any a h (by omega)
end

/-- What Read answers, by the model. -/
def ReadR (base : Nat) (r : Rd) (e : Ending) (w' : World) : Prop := match r with
  | .bad a => e = .returned (.tuple #[.slice none 0 0, .slice none 0 0, .string a, .int .i64 10])
  | .ok l p => ∃ ov pv, e = .returned (.tuple #[ov, pv, .string ⟨#[]⟩, .int .i64 0]) ∧ w'.ownsRow base 256 2 ov l.length (cellsC opC l) ∧ w'.ownsRow base 9 1 pv p.length (strs p)
def lenAt (b : Nat) (w : World) : Nat := match w.cell? ⟨b, 1, none⟩ with
  | some (.slice _ n _) => n
  | _ => 0
def RdRel (W0 : World) (b : Nat) (sa : Option Addr) (sc : Nat) (specs : List Sp) (args : List ByteArray) (wr : World) : Prop :=
  ∃ (L : List ByteArray) (O : List Op) (P : List ByteArray), Hid (readM specs args = finL O P (readM specs L)) ∧ Hid (∀ x ∈ L, x ∈ args) ∧ O.length + L.length * 1001 ≤ args.length * 1001 ∧ P.length + L.length ≤ args.length ∧ Hid (∃ la lc ov pv, Rdr W0 b sa specs.length sc la lc L O P ov pv wr)
set_option maxRecDepth 100000 in
set_option maxHeartbeats 8000000 in
theorem read_any (specs : List Sp) (args : List ByteArray) (sa la : Option Addr) (sc lc : Nat) (w : World) (hs : SpsL w sa specs) (hl : TxtL w la args) (hc : args.length ≤ lc ∧ lc ≤ maxLen ∧ (la = none → lc = 0)) (hm : MaxT w) (hn : specs.length ≤ 1000) (hk : args.length ≤ 40) (hz : ∀ x ∈ args, x.size ≤ 1000) :
    Calls Tryz.prog 105 #[.slice sa specs.length sc, .slice la args.length lc] w fun e w' => ReadR w.heap.size (readM specs args) e w' ∧ Below w.heap.size w w' := by
  have HSp := Lib.hid hs
  have HM := Lib.hid hm
  have HZ := Lib.hid hz
  have HR0 := Lib.hid (show Rdr w w.heap.size sa specs.length sc la lc args [] [] (.slice none 0 0) (.slice none 0 0) (w.alloc (.cells #[.slice sa specs.length sc, .slice la args.length lc, .slice none 0 0, .slice none 0 0] 250)) from
    ⟨heap_alloc_new _ _, hl, hc, World.ownsRow_nil _ _ _ _, World.ownsRow_nil _ _ _ _, (Below.refl _ _).alloc (Nat.le_refl _) _, Nat.le_refl _⟩)
  clear hs hl hc hm hz
  go_enter Tryz.func105, Tryz.ntmps105
  go_wp2_with fail
  generalize w.alloc (.cells #[.slice sa specs.length sc, .slice la args.length lc, .slice none 0 0, .slice none 0 0] 250) = w1 at HR0 ⊢
  go_loopw [] (RdRel w w.heap.size sa sc specs args) (fun W => lenAt w.heap.size W)
  case atStart => exact ⟨args, [], [], Lib.hid (fin_nil _).symm, Lib.hid (fun x hx => hx), by simp, by simp, Lib.hid ⟨_, _, _, _, HR0.out⟩⟩
  case round =>
    obtain ⟨L, O, P, HE, HI, hO, hP, HR⟩ := hrel
    obtain ⟨la1, lc1, ov1, pv1, hr⟩ := HR.out
    have HRr := Lib.hid hr
    clear hr HR
    cases L with
    | nil =>
      have c1 : wr.cell? ⟨w.heap.size, 1, none⟩ = some (.slice la1 0 lc1) := HRr.out.cell (j := 1) rfl
      have HRn := Lib.hid (fun n => HRr.out.keep (below_drewNb (n := n) (Below.refl _ _)))
      have c2 : wr.cell? ⟨w.heap.size, 2, none⟩ = some ov1 := HRr.out.cell (j := 2) rfl
      have c3 : wr.cell? ⟨w.heap.size, 3, none⟩ = some pv1 := HRr.out.cell (j := 3) rfl
      have d2 : ∀ n, (wr.drewN n).cell? ⟨w.heap.size, 2, none⟩ = some ov1 := fun n => (HRn.out n).cell (j := 2) rfl
      have d3 : ∀ n, (wr.drewN n).cell? ⟨w.heap.size, 3, none⟩ = some pv1 := fun n => (HRn.out n).cell (j := 3) rfl
      rw [read_end] at HE
      go_upto_region 7 with fail
      go_quiet (fail)
      have HRq := Lib.hid (HRn.out nq)
      generalize wr.drewN nq = w6 at HRq ⊢
      go_wp2_with fail
      refine bodyPost_ret (v := .tuple #[ov1, pv1, .string ⟨#[]⟩, .int .i64 0]) (by simp [results, Tryz.results105, go_sem]) rfl ⟨?_, HRq.out.low⟩
      rw [HE.out]
      exact ⟨_, _, rfl, HRq.out.opts, HRq.out.opnd⟩
    | cons x r =>
      have c1 : wr.cell? ⟨w.heap.size, 1, none⟩ = some (.slice la1 (r.length + 1) lc1) := HRr.out.cell (j := 1) rfl
      have e1 : decide ((0 : Int) < ((r.length + 1 : Nat) : Int)) = true := decide_eq_true (by omega)
      have HNx := Lib.hid (next_any HRr.out)
      have hlen : lenAt w.heap.size wr = r.length + 1 := by unfold lenAt; rw [c1]
      have HLn := Lib.hid hlen
      have HXs := Lib.hid (HZ.out x (HI.out x List.mem_cons_self))
      rw [List.length_cons] at hO hP
      have HTk := Lib.hid (fun (W : World) la2 lc2 (hr : Rdr w w.heap.size sa specs.length sc la2 lc2 r O P ov1 pv1 W) => take_any specs x hr HSp.out HM.out (by omega) HXs.out (by omega) (by omega))
      clear hlen
      go_upto_region 5 with (first
        | (go_at_call 163; refine HNx.out.mono ?_; rintro e w2 ⟨rfl, ⟨la2, lc2, h2⟩, _⟩; have H2 := Lib.hid h2; clear h2)
        | (go_at_call 164; refine (taker_any _ _ _).mono ?_; rintro e w3 ⟨rfl, hw3⟩; subst hw3))
      have hcf := taker_enters (listB x)
      generalize takerF (listB x) = F at HTk hcf ⊢
      go_wp2_with fail
      refine (HTk.out _ _ _ H2.out).mono ?_
      intro e w4 h4
      rcases hst : stepM (kindA specs x) x O P r with _ | ⟨O', P', L'⟩
      · rw [hst] at h4
        obtain ⟨rfl, hb4⟩ := h4
        rw [read_bad hst] at HE
        have HB4 := Lib.hid hb4
        clear hst hb4 hcf
        go_wp2_with fail
        refine bodyPost_ret (v := .tuple #[.slice none 0 0, .slice none 0 0, .string x, .int .i64 10]) (by simp [results, Tryz.results105, go_sem]) rfl ⟨?_, HB4.out⟩
        rw [HE.out]
        rfl
      · rw [hst] at h4
        obtain ⟨rfl, la4, lc4, ov4, pv4, h4⟩ := h4
        rw [read_on hst] at HE
        have hs1 := step_left hst
        have hs2 := step_opts hst
        rw [listB_len] at hs2
        have hx := HXs.out
        have HSub := Lib.hid (show ∀ y ∈ L', y ∈ args from fun y hy => HI.out y (List.mem_cons_of_mem _ (step_sub hst y hy)))
        dsimp only at h4
        have H4 := Lib.hid h4
        have HL4 := Lib.hid (show lenAt w.heap.size w4 = L'.length from by
          have := h4.cell (j := 1) (v := .slice la4 L'.length lc4) rfl
          unfold lenAt
          rw [this])
        clear hst h4 hcf
        go_wp2_with fail
        go_roundw
        case rel => exact ⟨L', O', P', HE, HSub, by omega, by omega, Lib.hid ⟨_, _, _, _, H4.out⟩⟩
        case measure => rw [HL4.out, HLn.out]; omega
end Go.Proofs.YtknfhphhcnbndaaGreatDoor.A
