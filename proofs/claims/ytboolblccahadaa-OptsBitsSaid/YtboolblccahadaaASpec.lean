/-
  What the reader tells of its specs: the first one of a letter, the one that a name means. Conditions: at most 100000 specs, in memory.
-/
import Derived.Test.YtboolblccahadaaAMem
import Derived.Test.YtboolblccahadaaShelf
import Derived.Deep.WholeRow
set_option linter.unusedVariables false
set_option linter.unusedSimpArgs false
namespace Go.Proofs.Ytboolblccahadaa.A
open Go.Proofs.Ytboolblccahadaa.B
open Go.RowKit

section
variable {W0 : World} {b : Nat} {sa : Option Addr} {sc : Nat} {la : Option Addr} {lc : Nat} {L : List ByteArray} {O : List Op} {P : List ByteArray} {ov pv : Value} {w : World}
def LetRel (specs : List Sp) (c : Int) (w1 : World) (v : Value) (wr : World) : Prop := ∃ i : Nat, i ≤ specs.length ∧ v = .int .i64 (i : Int) ∧ Hid (∀ (j : Nat) (x : Sp), j < i → specs[j]? = some x → decide (x.letter = c) = false) ∧ Hid (Below w1.heap.size w1 wr)
set_option maxRecDepth 100000 in
set_option maxHeartbeats 4000000 in
theorem letter_any (specs : List Sp) (c : Int) (h : Rdr W0 b sa specs.length sc la lc L O P ov pv w) (hs : SpsL W0 sa specs) (hn : specs.length ≤ 100000) :
    Calls Try.prog 32 #[.pointer (some ⟨b, 0, none⟩), .int .u8 c] w fun e w' => e = .returned (spR ((findK (fun s => decide (s.letter = c)) specs 0).map (spAt specs))) ∧ Below w.heap.size w w' := by
  have HK := Lib.hid (fun W (hb : Below w.heap.size w W) => h.keep hb)
  have HSp := Lib.hid (fun W (hb : Below w.heap.size w W) => hs.keep (h.low.trans (hb.mono h.low.size)))
  have HA := Lib.hid ((Below.refl w.heap.size w).alloc (Nat.le_refl _) (.cells noSpC 42))
  have HX := Lib.hid (heap_alloc_new w (.cells noSpC 42))
  unfold noSpC at HA HX
  have c0 : ∀ o, (w.alloc o).cell? ⟨b, 0, none⟩ = some (.slice sa specs.length sc) := fun o => (h.keep ((Below.refl _ _).alloc (Nat.le_refl _) o)).cell (j := 0) rfl
  clear h hs
  go_enter Try.func32, Try.ntmps32
  go_wp2_with fail
  have HL4 := Lib.hid (heap_lt HX.out)
  generalize w.alloc (.cells #[.int .u8 0, .string ⟨#[]⟩, .bool false] 42) = w1 at HA HX HL4 ⊢
  clear c0
  go_loopw [13] (LetRel specs c w1) (fun v _ => specs.length - (intOf v).toNat)
  case atStart => exact ⟨0, Nat.zero_le _, rfl, Lib.hid (fun j x hj => by omega), Lib.hid (Below.refl _ _)⟩
  case round =>
    obtain ⟨i, hi, rfl, HNo, HB⟩ := hrel
    have HX4 := Lib.hid ((HB.out.block _ HL4.out).trans HX.out)
    by_cases hlt : i < specs.length
    · have e1 : decide ((i : Int) < (specs.length : Int)) = true := decide_eq_true (by omega)
      obtain ⟨s, hsi⟩ : ∃ s, specs[i]? = some s := ⟨_, List.getElem?_eq_getElem hlt⟩
      have HSi := Lib.hid hsi
      obtain ⟨g, o, rfl, hg, r0, r1, r2⟩ := sps_at (HSp.out wr (HA.out.trans (HB.out.mono HA.out.size))) hsi
      clear hsi hg
      go_upto_region 4 with fail
      have HBa := Lib.hid (HB.out.alloc HB.out.size (.cells #[.int .u8 s.letter, .string s.long, .bool s.value] 42))
      have HXa := Lib.hid (heap_alloc_new wr (.cells #[.int .u8 s.letter, .string s.long, .bool s.value] 42))
      generalize wr.alloc (.cells #[.int .u8 s.letter, .string s.long, .bool s.value] 42) = w2 at HBa HXa ⊢
      have HXb := Lib.hid ((HBa.out.block _ HL4.out).trans HX.out)
      clear r0 r1 r2
      have r0 : w2.cell? ⟨wr.heap.size, 0, none⟩ = some (.int .u8 s.letter) := by rw [cell_of_row _ _ _ _ _ _ HXa.out]; rfl
      have r1 : w2.cell? ⟨wr.heap.size, 1, none⟩ = some (.string s.long) := by rw [cell_of_row _ _ _ _ _ _ HXa.out]; rfl
      have r2 : w2.cell? ⟨wr.heap.size, 2, none⟩ = some (.bool s.value) := by rw [cell_of_row _ _ _ _ _ _ HXa.out]; rfl
      by_cases hc : s.letter = c
      · have e2 : (s.letter == c) = true := beq_iff_eq.2 hc
        have HF := Lib.hid (show (findK (fun s => decide (s.letter = c)) specs 0).map (spAt specs) = some s from by
          rw [find_hit (i := i) HSi.out (decide_eq_true hc) HNo.out, Option.map_some, spAt_of HSi.out])
        clear hc
        go_wp2_with (refine wpList_store_row rfl 42 (.tmp 4) (.tmp 21) rfl w.heap.size (spC s).toArray rfl rfl _ _ HXb.out sizeSp rfl (by simp [spC, Value.oneCell']) ?_)
        have HXc := Lib.hid (setRow_heap w2 w.heap.size _ (spC s).toArray _ _ HXb.out)
        refine bodyPost_ret (v := spR (some s)) ?_ rfl ⟨by rw [HF.out], below_setRow (HA.out.trans (HBa.out.mono HA.out.size)) (Nat.le_refl _) _⟩
        exact results_pair Try.results32 _ _ w.heap.size _ _ _ _ _ rfl rfl HXc.out Try.underlying42 rfl sizeSp
      · have e2 : (s.letter == c) = false := beq_eq_false_iff_ne.2 hc
        have HN := Lib.hid (show ∀ (j : Nat) (x : Sp), j < i + 1 → specs[j]? = some x → decide (x.letter = c) = false from fun j x hj hx => by
          rcases Nat.lt_or_ge j i with q | q
          · exact HNo.out j x q hx
          · obtain rfl : j = i := by omega
            rw [HSi.out] at hx
            obtain rfl := Option.some.inj hx
            exact decide_eq_false hc)
        clear hc
        go_wp2_with fail
        go_roundw
        case rel => exact ⟨i + 1, by omega, by simp, HN, HBa⟩
        case measure => simp [intOf]; omega
    · have e1 : decide ((i : Int) < (specs.length : Int)) = false := decide_eq_false (by omega)
      have HF := Lib.hid (show (findK (fun s => decide (s.letter = c)) specs 0).map (spAt specs) = none from by
        rw [find_miss (fun j x hj hx => HNo.out j x (by omega) hx), Option.map_none])
      go_wp2_with (refine wpList_store_row rfl 42 (.tmp 4) (.tmp 23) rfl w.heap.size noSpC rfl rfl _ _ HX4.out sizeSp rfl (by simp [noSpC, Value.oneCell']) ?_)
      have HXc := Lib.hid (setRow_heap wr w.heap.size _ noSpC _ _ HX4.out)
      refine bodyPost_ret (v := spR none) ?_ rfl ⟨by rw [HF.out], below_setRow (HA.out.trans (HB.out.mono HA.out.size)) (Nat.le_refl _) _⟩
      exact results_pair Try.results32 _ _ w.heap.size _ _ _ _ _ rfl rfl HXc.out Try.underlying42 rfl sizeSp

/-- What the specs' names are to a name: one has none, one is it, one begins so, one doesn't. -/
theorem name_none {s : Sp} {n : List UInt8} (h : listB s.long = []) : startsB n s = false ∧ wholeB n s = false := by
  unfold startsB wholeB
  rw [h]
  refine ⟨rfl, ?_⟩
  cases n <;> rfl
theorem name_whole {s : Sp} {n : ByteArray} (h0 : listB s.long ≠ []) (h : s.long = n) : wholeB (listB n) s = true := by
  unfold wholeB
  rw [← h]
  simp [h0]
theorem name_other {s : Sp} {n : ByteArray} (h0 : listB s.long ≠ []) (h : s.long ≠ n) : wholeB (listB n) s = false ∧ startsB (listB n) s = Lib.hasPrefix s.long.data.toList n.data.toList := by
  unfold wholeB startsB
  have : (listB s.long == listB n) = false := beq_eq_false_iff_ne.2 fun z => h (listB_inj z)
  rw [this]
  refine ⟨rfl, ?_⟩
  have e : (listB s.long).isEmpty = false := by rw [List.isEmpty_eq_false_iff]; exact h0
  rw [e]
  rfl
def NamRel (specs : List Sp) (n : List UInt8) (w : World) (v k : Value) (wr : World) : Prop := ∃ i : Nat, i ≤ specs.length ∧ k = .int .i64 (i : Int) ∧ v = .int .i64 (cntK (startsB n) specs i : Int) ∧ Hid (∀ (j : Nat) (x : Sp), j < i → specs[j]? = some x → wholeB n x = false) ∧ Hid (Below w.heap.size w wr) ∧ Hid (wr.heap[w.heap.size]? = some (.cells noSpC 42 (0, 0))) ∧ Hid (wr.heap[w.heap.size + 1]? = some (.cells (spC (lastK (startsB n) specs i)).toArray 42 (0, 0)))
set_option maxRecDepth 100000 in
set_option maxHeartbeats 8000000 in
theorem name_any (specs : List Sp) (n : ByteArray) (h : Rdr W0 b sa specs.length sc la lc L O P ov pv w) (hs : SpsL W0 sa specs) (hn : specs.length ≤ 100000) :
    Calls Try.prog 29 #[.pointer (some ⟨b, 0, none⟩), .string n] w fun e w' => e = .returned (spR ((meantM specs (listB n)).map (spAt specs))) ∧ Below w.heap.size w w' := by
  have HSp := Lib.hid (fun W (hb : Below w.heap.size w W) => hs.keep (h.low.trans (hb.mono h.low.size)))
  have HA := Lib.hid (((Below.refl w.heap.size w).alloc (Nat.le_refl _) (.cells noSpC 42)).alloc (by simp) (.cells noSpC 42))
  have HX := Lib.hid ((heap_alloc_old (w.alloc (.cells noSpC 42)) (.cells noSpC 42) (heap_lt (heap_alloc_new w (.cells noSpC 42)))).trans (heap_alloc_new w (.cells noSpC 42)))
  have HY := Lib.hid (heap_alloc_new (w.alloc (.cells noSpC 42)) (.cells noSpC 42))
  rw [show (w.alloc (.cells noSpC 42)).heap.size = w.heap.size + 1 by simp] at HY
  have c0 : ((w.alloc (.cells noSpC 42)).alloc (.cells noSpC 42)).cell? ⟨b, 0, none⟩ = some (.slice sa specs.length sc) := (h.keep HA.out).cell (j := 0) rfl
  unfold noSpC at HA HX HY c0
  clear h hs
  go_enter Try.func29, Try.ntmps29
  go_wp2_with fail
  generalize (w.alloc (.cells #[.int .u8 0, .string ⟨#[]⟩, .bool false] 42)).alloc (.cells #[.int .u8 0, .string ⟨#[]⟩, .bool false] 42) = w1 at HA HX HY c0 ⊢
  clear c0
  go_loopw [7, 15] (NamRel specs (listB n) w) (fun _ v _ => specs.length - (intOf v).toNat)
  case atStart => exact ⟨0, Nat.zero_le _, rfl, rfl, Lib.hid (fun j x hj => by omega), HA, HX, HY⟩
  case round =>
    obtain ⟨i, hi, rfl, rfl, HNo, HB, HX4, HX6⟩ := hrel
    have HBsz := Lib.hid (show w.heap.size + 1 < wr.heap.size from heap_lt HX6.out)
    by_cases hlt : i < specs.length
    · have e1 : decide ((i : Int) < (specs.length : Int)) = true := decide_eq_true (by omega)
      obtain ⟨s, hsi⟩ : ∃ s, specs[i]? = some s := ⟨_, List.getElem?_eq_getElem hlt⟩
      have HSi := Lib.hid hsi
      obtain ⟨g, o, rfl, hg, r0, r1, r2⟩ := sps_at (HSp.out wr HB.out) hsi
      clear hsi hg
      have hcl := cnt_le (startsB (listB n)) specs i
      go_upto_region 6 with fail
      have HBa := Lib.hid (HB.out.alloc HB.out.size (.cells #[.int .u8 s.letter, .string s.long, .bool s.value] 42))
      have HXa := Lib.hid (heap_alloc_new wr (.cells #[.int .u8 s.letter, .string s.long, .bool s.value] 42))
      have HXb := Lib.hid ((heap_alloc_old wr (.cells #[.int .u8 s.letter, .string s.long, .bool s.value] 42) (heap_lt HX4.out)).trans HX4.out)
      have HXc := Lib.hid ((heap_alloc_old wr (.cells #[.int .u8 s.letter, .string s.long, .bool s.value] 42) (heap_lt HX6.out)).trans HX6.out)
      generalize wr.alloc (.cells #[.int .u8 s.letter, .string s.long, .bool s.value] 42) = w2 at HBa HXa HXb HXc ⊢
      clear r0 r1 r2
      have r0 : w2.cell? ⟨wr.heap.size, 0, none⟩ = some (.int .u8 s.letter) := by rw [cell_of_row _ _ _ _ _ _ HXa.out]; rfl
      have r1 : w2.cell? ⟨wr.heap.size, 1, none⟩ = some (.string s.long) := by rw [cell_of_row _ _ _ _ _ _ HXa.out]; rfl
      have r2 : w2.cell? ⟨wr.heap.size, 2, none⟩ = some (.bool s.value) := by rw [cell_of_row _ _ _ _ _ _ HXa.out]; rfl
      have HNx := Lib.hid (show wholeB (listB n) s = false → ∀ (j : Nat) (x : Sp), j < i + 1 → specs[j]? = some x → wholeB (listB n) x = false from fun hw j x hj hx => by
        rcases Nat.lt_or_ge j i with q | q
        · exact HNo.out j x q hx
        · obtain rfl : j = i := by omega
          rw [HSi.out] at hx
          obtain rfl := Option.some.inj hx
          exact hw)
      by_cases h0 : s.long.size = 0
      · obtain ⟨z1, z2, z3, z4⟩ := txt_emp h0
        obtain ⟨y1, y2⟩ := name_none (n := listB n) z4
        have HC := Lib.hid (cnt_no (p := startsB (listB n)) HSi.out y1)
        have HL := Lib.hid (last_no (p := startsB (listB n)) HSi.out y1)
        have HN := Lib.hid (HNx.out y2)
        clear h0 z4 y1 y2
        go_wp2_with fail
        go_roundw
        case rel => exact ⟨i + 1, by omega, by simp, by rw [HC.out], HN, HBa, HXb, by rw [HL.out]; exact HXc⟩
        case measure => simp [intOf]; omega
      · obtain ⟨z1, z2, z3, z4, z5⟩ := txt_non (s := s.long) (by omega)
        have HZ := Lib.hid z5
        clear h0 z5
        by_cases hw : s.long = n
        · have q1 := txt_eq hw
          have HF := Lib.hid (show (meantM specs (listB n)).map (spAt specs) = some s from by
            rw [meant_whole HSi.out (name_whole HZ.out hw) HNo.out, Option.map_some, spAt_of HSi.out])
          clear hw
          go_wp2_with (refine wpList_store_row rfl 42 (.tmp 4) (.tmp 28) rfl w.heap.size (spC s).toArray rfl rfl _ _ HXb.out sizeSp rfl (by simp [spC, Value.oneCell']) ?_)
          have HXd := Lib.hid (setRow_heap w2 w.heap.size _ (spC s).toArray _ _ HXb.out)
          refine bodyPost_ret (v := spR (some s)) ?_ rfl ⟨by rw [HF.out], below_setRow HBa.out (Nat.le_refl _) _⟩
          exact results_pair Try.results29 _ _ w.heap.size _ _ _ _ _ rfl rfl HXd.out Try.underlying42 rfl sizeSp
        · obtain ⟨q1, q2, q3⟩ := txt_ne hw
          obtain ⟨y1, y2⟩ := name_other (n := n) HZ.out hw
          have HN := Lib.hid (HNx.out y1)
          have HP := Lib.hid (Try.strings_HasPrefix s.long n w2)
          rw [← y2] at HP
          clear hw y1 y2
          by_cases hp : startsB (listB n) s = true
          · rw [hp] at HP
            have HC := Lib.hid (cnt_yes (p := startsB (listB n)) HSi.out hp)
            have HL := Lib.hid (last_yes (p := startsB (listB n)) HSi.out hp)
            clear hp
            go_wp2_with (first
              | (go_at_call 22; refine HP.out.mono ?_; rintro e w3 ⟨rfl, hw3⟩; subst hw3)
              | (refine wpList_store_row rfl 42 (.tmp 6) (.tmp 34) rfl (w.heap.size + 1) (spC s).toArray rfl rfl _ _ HXc.out sizeSp rfl (by simp [spC, Value.oneCell']) ?_))
            go_roundw
            case rel => exact ⟨i + 1, by omega, by simp, by rw [HC.out]; go_num, HN, Lib.hid (below_setRow HBa.out (by omega) _), Lib.hid (by rw [setRow_other _ _ _ _ (by omega)]; exact HXb.out), Lib.hid (by rw [HL.out]; exact setRow_heap _ _ _ _ _ _ HXc.out)⟩
            case measure => simp [intOf]; omega
          · rw [Bool.not_eq_true] at hp
            rw [hp] at HP
            have HC := Lib.hid (cnt_no (p := startsB (listB n)) HSi.out hp)
            have HL := Lib.hid (last_no (p := startsB (listB n)) HSi.out hp)
            clear hp
            go_wp2_with (go_at_call 22; refine HP.out.mono ?_; rintro e w3 ⟨rfl, hw3⟩; subst hw3)
            go_roundw
            case rel => exact ⟨i + 1, by omega, by simp, by rw [HC.out], HN, HBa, HXb, by rw [HL.out]; exact HXc⟩
            case measure => simp [intOf]; omega
    · have e1 : decide ((i : Int) < (specs.length : Int)) = false := decide_eq_false (by omega)
      obtain rfl : i = specs.length := by omega
      have hcl := cnt_le (startsB (listB n)) specs specs.length
      by_cases h1 : cntK (startsB (listB n)) specs specs.length = 1
      · have e2 : ((cntK (startsB (listB n)) specs specs.length : Int) != 1) = false := by rw [h1]; rfl
        obtain ⟨j, hj, hsj⟩ := last_one h1
        have HF := Lib.hid (show (meantM specs (listB n)).map (spAt specs) = some (lastK (startsB (listB n)) specs specs.length) from by
          rw [meant_one HNo.out (by have := h1; unfold cntK at this; rwa [List.take_length] at this), hj, Option.map_some, hsj])
        clear h1 hj hsj
        generalize cntK (startsB (listB n)) specs specs.length = C at *
        generalize lastK (startsB (listB n)) specs specs.length = s at *
        have r0 : wr.cell? ⟨w.heap.size + 1, 0, none⟩ = some (.int .u8 s.letter) := by rw [cell_of_row _ _ _ _ _ _ HX6.out]; rfl
        have r1 : wr.cell? ⟨w.heap.size + 1, 1, none⟩ = some (.string s.long) := by rw [cell_of_row _ _ _ _ _ _ HX6.out]; rfl
        have r2 : wr.cell? ⟨w.heap.size + 1, 2, none⟩ = some (.bool s.value) := by rw [cell_of_row _ _ _ _ _ _ HX6.out]; rfl
        go_wp2_with (refine wpList_store_row rfl 42 (.tmp 4) (.tmp 41) rfl w.heap.size (spC s).toArray rfl rfl _ _ HX4.out sizeSp rfl (by simp [spC, Value.oneCell']) ?_)
        have HXd := Lib.hid (setRow_heap wr w.heap.size _ (spC s).toArray _ _ HX4.out)
        refine bodyPost_ret (v := spR (some s)) ?_ rfl ⟨by rw [HF.out], below_setRow HB.out (Nat.le_refl _) _⟩
        exact results_pair Try.results29 _ _ w.heap.size _ _ _ _ _ rfl rfl HXd.out Try.underlying42 rfl sizeSp
      · have e2 : ((cntK (startsB (listB n)) specs specs.length : Int) != 1) = true := by rw [bne_iff_ne]; omega
        have HF := Lib.hid (show (meantM specs (listB n)).map (spAt specs) = none from by
          rw [meant_none HNo.out (by have := h1; unfold cntK at this; rwa [List.take_length] at this), Option.map_none])
        clear h1
        generalize cntK (startsB (listB n)) specs specs.length = C at *
        go_wp2_with (refine wpList_store_row rfl 42 (.tmp 4) (.tmp 40) rfl w.heap.size noSpC rfl rfl _ _ HX4.out sizeSp rfl (by simp [noSpC, Value.oneCell']) ?_)
        have HXd := Lib.hid (setRow_heap wr w.heap.size _ noSpC _ _ HX4.out)
        refine bodyPost_ret (v := spR none) ?_ rfl ⟨by rw [HF.out], below_setRow HB.out (Nat.le_refl _) _⟩
        exact results_pair Try.results29 _ _ w.heap.size _ _ _ _ _ rfl rfl HXd.out Try.underlying42 rfl sizeSp
end
end Go.Proofs.Ytboolblccahadaa.A
