/-
  A file system of the program's, as it lies in memory: a block for its one field, a block of nodes, a block of entries for each node. What a store and an append make of it. Conditions: each fact's own.
  What strings.IndexRune returns of a text of a byte 0 and a slash, and a character from 128 on: -1. Conditions: the character is one of Unicode's numbers.
  Hard bytes of a name: a byte 0 and a slash; where a text has none. Conditions: none.
  What vfs.Good and goodText return: whether a name, or a link's text, is good. Conditions: none.
-/
import Derived.Test.YtknfhphhcnbndaaGreatDoorGVNew
import Derived.Test.YtknfhphhcnbndaaGreatDoorShelf
import Derived.Scope
import Derived.Deep.QuietTactic
import Derived.BigQuiet
import Derived.Lib.SpaceUEq
import Derived.Laws.RangeAny
import Derived.Lib.IndexAny
set_option linter.unusedSimpArgs false
set_option linter.unusedVariables false

namespace Go.Proofs.YtknfhphhcnbndaaGreatDoor.V
open Go.RowKit

def RuneRel (w : World) (wr : World) : Prop := ∃ pos : Nat, wr.heap[w.heap.size]? = some (.stringIter ⟨#[0, 47]⟩ pos) ∧ pos ≤ 2 ∧ Below w.heap.size w wr
theorem iterPos_at {w : World} {k : Nat} {s : ByteArray} {pos : Nat} (h : w.heap[k]? = some (.stringIter s pos)) : w.iterPos k = pos := by
  unfold World.iterPos; rw [h]
theorem runeRel_next {w wr : World} {pos pos' : Nat} (hk : wr.heap[w.heap.size]? = some (.stringIter ⟨#[0, 47]⟩ pos)) (hp : pos' ≤ 2) (hb : Below w.heap.size w wr) : RuneRel w (wr.iterAt w.heap.size ⟨#[0, 47]⟩ pos') :=
  ⟨pos', Lib.iterAt_heap wr _ _ pos pos' hk, hp, Lib.below_iterAt hb (Nat.le_refl _) _ _⟩

theorem below_drewN' {B n : Nat} {w w' : World} (hb : Below B w w') : Below B w (w'.drewN n) := ⟨hb.os, hb.tape, hb.output, hb.size, hb.block⟩

set_option maxRecDepth 100000 in
set_option maxHeartbeats 4000000 in
theorem runeHi_any (r : Int) (w : World) (h0 : 128 ≤ r) (h1 : r ≤ 1114111) :
    Calls Tryz.prog 182 #[.string ⟨#[0, 47]⟩, .int .i32 r] w fun e w' => e = .returned (.int .i64 (-1)) ∧ Below w.heap.size w w' := by
  by_cases hr : r = 65533
  · subst hr
    go_enter Tryz.func182, Tryz.ntmps182
    go_wp2
    go_loopw [] (RuneRel w) (fun w' => 2 - w'.iterPos w.heap.size)
    case atStart => exact ⟨0, World.iter_heap w _ 0, Nat.zero_le _, (Below.refl _ _).alloc (Nat.le_refl _) _⟩
    case round =>
      obtain ⟨pos, hk, hp, hb⟩ := hrel
      have HK := Lib.hid hk
      have HB := Lib.hid hb
      rcases (show pos = 0 ∨ pos = 1 ∨ pos = 2 from by omega) with rfl | rfl | rfl
      · have hnx : ∀ ty, (Instr.next (.pointer (some ⟨w.heap.size, 0, none⟩)) true ty).run Tryz.prog wr = .ok (.tuple #[.bool true, .int .i64 0, .int .i32 0]) (wr.iterAt w.heap.size ⟨#[0, 47]⟩ 1) := fun ty => Lib.run_next_any_at wr _ ⟨#[0, 47]⟩ 0 ty hk (by decide)
        have R := Lib.hid (runeRel_next hk (show 1 ≤ 2 by omega) hb)
        clear hk hb
        go_wp2
        go_roundw
        case rel => exact R.out
        case measure => rw [iterPos_at (Lib.iterAt_heap wr _ _ _ 1 HK.out), iterPos_at HK.out]; omega
      · have hnx : ∀ ty, (Instr.next (.pointer (some ⟨w.heap.size, 0, none⟩)) true ty).run Tryz.prog wr = .ok (.tuple #[.bool true, .int .i64 1, .int .i32 47]) (wr.iterAt w.heap.size ⟨#[0, 47]⟩ 2) := fun ty => Lib.run_next_any_at wr _ ⟨#[0, 47]⟩ 1 ty hk (by decide)
        have R := Lib.hid (runeRel_next hk (show 2 ≤ 2 by omega) hb)
        clear hk hb
        go_wp2
        go_roundw
        case rel => exact R.out
        case measure => rw [iterPos_at (Lib.iterAt_heap wr _ _ _ 2 HK.out), iterPos_at HK.out]; omega
      · have hnx : ∀ ty, (Instr.next (.pointer (some ⟨w.heap.size, 0, none⟩)) true ty).run Tryz.prog wr = _ := fun ty => Lib.run_next_end_at wr _ ⟨#[0, 47]⟩ 2 ty hk (by decide)
        clear hk hb
        go_wp2
        go_ret
        exact ⟨rfl, HB.out⟩
  · have b0 : (r == 65533) = false := by simp [hr]
    by_cases hv : Lib.validRune r = true
    · go_enter Tryz.func182, Tryz.ntmps182
      go_wp2_with (go_at_call 232; refine (Tryz.utf8_ValidRune r _).mono ?_; rintro e w2 ⟨rfl, hw⟩; subst hw; rw [hv])
      obtain ⟨t2, t4, tl⟩ := encode_facts r (by rw [validRune_eq]; exact hv) h0
      have hw1 : wrap64 (((Utf8.encode r).size : Int) - 1) = ((Utf8.encode r).size : Int) - 1 := by unfold wrap64; omega
      have TL := Lib.hid tl
      clear tl
      refine wp_scope_straight ?_
      go_wp2
      generalize Utf8.encode r = t at *
      go_loopw [9] (fun v wr => v = .int .i64 ((t.size : Int) - 1) ∧ wr = w2) (fun _ _ => 0)
      case atStart => exact ⟨rfl, rfl⟩
      case round =>
        obtain ⟨rfl, rfl⟩ := hrel
        by_cases h2 : t.size = 2
        · have h1s : (t.size : Int) - 1 = 1 := by omega
          have hlt : 1 < t.size := by omega
          have hb : 128 ≤ (t[1]'hlt).toNat := by
            have := TL.out (by omega)
            have e : t.size - 1 = 1 := by omega
            simp only [e] at this
            exact this
          have hne : ((47 : Int) != ((t[1]'hlt).toNat : Int)) = true := by
            rw [bne_iff_ne]; omega
          have hw2 : IntKind.i64.wrap 2 = 2 := by decide
          rw [h1s]
          clear TL
          go_wp2
          refine wp_scope_straight ?_
          go_wp2
          go_quiet (fail)
          go_wp2
          have HB3 := Lib.hid (show Below wr.heap.size wr (wr.drewN nq) from ⟨rfl, rfl, rfl, Nat.le_refl _, fun _ _ => rfl⟩)
          have hib : ∀ c, Lib.indexByte [] c = -1 := fun _ => rfl
          have hib2 : ∀ c, Lib.indexByte ByteArray.empty.data.toList c = -1 := fun _ => rfl
          generalize wr.drewN nq = w3 at *
          go_quiet (first | (go_at_call 70; refine Calls.quiet_of_same (Tryz.strings_IndexByte _ _ _)))
          go_wp2
          · rw [Exit.noGoto_ret]
            go_wp2
            rw [Exit.noGoto_ret]
            go_wp2
            go_ret
            exact ⟨rfl, below_drewN' HB3.out⟩
          · exfalso
            have q : ((((⟨#[0, 47]⟩ : ByteArray)[1]'(by decide)).toNat : Int) != ((t[1]'hlt).toNat : Int)) = false := by assumption
            have q2 : ((((⟨#[0, 47]⟩ : ByteArray)[1]'(by decide)).toNat : Int) != ((t[1]'hlt).toNat : Int)) = true := hne
            rw [q2] at q
            cases q
        · have hge : ¬ ((t.size : Int) - 1 < 2) := by omega
          go_wp2
          go_ret
          exact ⟨rfl, Below.refl _ _⟩
    · have hv' : Lib.validRune r = false := by simpa using hv
      clear hv
      go_enter Tryz.func182, Tryz.ntmps182
      go_wp2_with (go_at_call 232; refine (Tryz.utf8_ValidRune r _).mono ?_; rintro e w2 ⟨rfl, hw⟩; subst hw; rw [hv'])
      go_ret
      exact ⟨rfl, Below.refl _ _⟩
end Go.Proofs.YtknfhphhcnbndaaGreatDoor.V

namespace Go.Proofs.YtknfhphhcnbndaaGreatDoor.V
open Go.RowKit

def hardL : List UInt8 := [0, 47]
theorem hard_of {b : UInt8} : hardL.contains b = true ↔ b = 0 ∨ b = 47 := by simp [hardL]
theorem hard_high {b : UInt8} (h : 128 ≤ b.toNat) : hardL.contains b = false := by
  rw [← Bool.not_eq_true, hard_of]
  rintro (rfl | rfl) <;> simp at h

theorem get_at {s : ByteArray} {i : Nat} (h : i < s.size) : s.data.toList[i]? = some (s.get! i) := by
  have h' : i < s.data.toList.length := by rw [← Lib.size_eq]; exact h
  rw [List.getElem?_eq_getElem h', ← Lib.getD_get!' s i, List.getD_eq_getElem?_getD, List.getElem?_eq_getElem h']
  rfl
theorem get_bang {s : ByteArray} {i : Nat} (h : i < s.size) : s.get! i = s[i]'h := by
  have h2 := get_at h
  rw [Lib.data_getElem? s i h] at h2
  exact (Option.some.inj h2).symm

/-- A character from 128 on holds no hard byte. -/
theorem noAny_multi {s : ByteArray} {pos : Nat} (h : pos < s.size) (hb : 128 ≤ (s[pos]'h).toNat) (hn : Lib.NoAny s.data.toList hardL pos) : Lib.NoAny s.data.toList hardL (pos + (Utf8.decode s pos).2) := by
  have hc := Lib.decodeN_conts (s.size - pos) (s.get! pos).toNat (s.get! (pos + 1)).toNat (s.get! (pos + 2)).toNat (s.get! (pos + 3)).toNat
  rw [← Lib.decode_at] at hc
  obtain ⟨c2, c3, c4, c5⟩ := hc
  intro j b hj hjb
  by_cases hlt : j < pos
  · exact hn j b hlt hjb
  · have hjs : j < s.size := by
      have := (List.getElem?_eq_some_iff.1 hjb).1
      rwa [← Lib.size_eq] at this
    have e : b = s.get! j := by
      rw [get_at hjs] at hjb
      exact (Option.some.inj hjb).symm
    refine hard_high ?_
    subst e
    rcases (show j = pos ∨ j = pos + 1 ∨ j = pos + 2 ∨ j = pos + 3 from by omega) with rfl | rfl | rfl | rfl
    · rw [get_bang h]; exact hb
    · have := (c2 (by omega)).1; omega
    · have := (c3 (by omega)).1; omega
    · have := (c4 (by omega)).1; omega
end Go.Proofs.YtknfhphhcnbndaaGreatDoor.V

namespace Go.Proofs.YtknfhphhcnbndaaGreatDoor.V
open Go.RowKit

def AnyRel (s : ByteArray) (w : World) (wr : World) : Prop := ∃ pos : Nat, wr.heap[w.heap.size]? = some (.stringIter s pos) ∧ pos ≤ s.size ∧ Below w.heap.size w wr ∧ Lib.NoAny s.data.toList hardL pos
theorem anyRel_next {s : ByteArray} {w wr w2 : World} {pos pos' : Nat} (hk : wr.heap[w.heap.size]? = some (.stringIter s pos)) (hp : pos' ≤ s.size) (hb : Below w.heap.size w wr) (hn : Lib.NoAny s.data.toList hardL pos')
    (h2 : Below (wr.iterAt w.heap.size s pos').heap.size (wr.iterAt w.heap.size s pos') w2) : AnyRel s w w2 ∧ w2.iterPos w.heap.size = pos' := by
  have hlt : w.heap.size < wr.heap.size := (Array.getElem?_eq_some_iff.1 hk).1
  have hsz := Lib.iterAt_size wr w.heap.size s pos'
  have e : w2.heap[w.heap.size]? = some (.stringIter s pos') := by
    rw [h2.block _ (by omega)]
    exact Lib.iterAt_heap wr _ s pos pos' hk
  exact ⟨⟨pos', e, hp, (Lib.below_iterAt hb (Nat.le_refl _) s pos').trans (h2.mono (by omega)), hn⟩, iterPos_at e⟩
theorem decode_bd (s : ByteArray) (pos : Nat) (h : pos < s.size) : (Utf8.decode s pos).1 ≤ 1114111 ∧ 1 ≤ (Utf8.decode s pos).2 ∧ pos + (Utf8.decode s pos).2 ≤ s.size := by
  rw [Lib.decode_at]
  have h0 : (s.get! pos).toNat < 256 := UInt8.toNat_lt _
  refine ⟨Lib.decodeN_rune_le _ _ _ _ _ h0, Lib.decodeN_ge1 _ _ _ _ _, ?_⟩
  have := Lib.decodeN_conts (s.size - pos) (s.get! pos).toNat (s.get! (pos + 1)).toNat (s.get! (pos + 2)).toNat (s.get! (pos + 3)).toNat
  omega
theorem hard_index (b : UInt8) : Lib.indexByte [0, 47] b = if b = 0 then 0 else if b = 47 then 1 else -1 := by
  simp only [Lib.indexByte]
  by_cases h0 : b = 0
  · subst h0; rfl
  · by_cases h1 : b = 47
    · subst h1; rfl
    · have e0 : ((0 : UInt8) == b) = false := by simpa using fun e => h0 e.symm
      have e1 : ((47 : UInt8) == b) = false := by simpa using fun e => h1 e.symm
      simp [e0, e1, h0, h1]

set_option maxRecDepth 100000 in
set_option maxHeartbeats 4000000 in
theorem anyShort (s : ByteArray) (w : World) (hs : s.size ≤ 8) :
    Calls Tryz.prog 133 #[.string s, .string ⟨#[0, 47]⟩] w fun e w' => e = .returned (.int .i64 (Lib.indexAny s.data.toList hardL)) ∧ Below w.heap.size w w' := by
  have d8 : decide ((8 : Int) < (s.size : Int)) = false := decide_eq_false (by omega)
  go_enter Tryz.func133, Tryz.ntmps133
  go_wp2_with (go_at_call 183; refine (Tryz.strings_shouldUseASCIISet _ _).mono ?_; rintro e w2 ⟨rfl, hw⟩; subst hw; rw [d8])
  go_loopw [] (AnyRel s w2) (fun w' => s.size - w'.iterPos w2.heap.size)
  case atStart => exact ⟨0, World.iter_heap w2 s 0, Nat.zero_le _, (Below.refl _ _).alloc (Nat.le_refl _) _, Lib.NoAny.zero _ _⟩
  case round =>
    obtain ⟨pos, hk, hp, hb, hn⟩ := hrel
    have HK := Lib.hid hk
    have HB := Lib.hid hb
    have HN := Lib.hid hn
    by_cases hlt : pos < s.size
    · have hnx : ∀ ty, (Instr.next (.pointer (some ⟨w2.heap.size, 0, none⟩)) true ty).run Tryz.prog wr = _ := fun ty => Lib.run_next_any_at wr _ s pos ty hk hlt
      obtain ⟨hd1, hd2, hd3⟩ := decode_bd s pos hlt
      have hat : s.data.toList[pos]? = some (s[pos]'hlt) := Lib.data_getElem? s pos hlt
      by_cases ha : (s[pos]'hlt).toNat < 128
      · rw [decode_ascii s pos hlt ha] at hnx hd1 hd2 hd3
        have hib := hard_index (s[pos]'hlt)
        obtain ⟨b, hbe⟩ : ∃ b, s[pos]'hlt = b := ⟨_, rfl⟩
        rw [hbe] at hib hat ha hnx
        have HAT := Lib.hid hat
        have hbt : ((b.toNat : Int)).toNat.toUInt8 = b := by simp
        have hcase : hardL.contains b = true ∨ hardL.contains b = false := by cases hardL.contains b <;> simp
        have HC := Lib.hid (iterPos_at HK.out)
        clear hk hb hn hat hbe
        rcases hcase with hc | hc
        · have h2 := hard_of.1 hc
          have hge : (0 : Int) ≤ Lib.indexByte [0, 47] b := by
            rw [hib]
            rcases h2 with rfl | rfl <;> decide
          have R := Lib.hid (Lib.indexAny_hit HN.out HAT.out hc)
          clear hc h2 hib
          go_wp2_with (go_at_call 182; refine (Tryz.strings_IndexRune_ascii ⟨#[0, 47]⟩ (b.toNat : Int) _ (by omega) (by omega)).mono ?_; rintro e w3 ⟨rfl, hw⟩; subst hw; rw [hbt])
          go_ret
          exact ⟨ret_int R.out.symm, Lib.below_iterAt HB.out (Nat.le_refl _) _ _⟩
        · have hlt0 : ¬ ((0 : Int) ≤ Lib.indexByte [0, 47] b) := by
            have n2 : ¬ (b = 0 ∨ b = 47) := fun e => by rw [hard_of.2 e] at hc; cases hc
            rw [hib, if_neg (fun e => n2 (.inl e)), if_neg (fun e => n2 (.inr e))]
            omega
          have R := Lib.hid (anyRel_next HK.out hd3 HB.out (HN.out.succ HAT.out hc) (Below.refl _ _))
          clear hc hib
          go_wp2_with (go_at_call 182; refine (Tryz.strings_IndexRune_ascii ⟨#[0, 47]⟩ (b.toNat : Int) _ (by omega) (by omega)).mono ?_; rintro e w3 ⟨rfl, hw⟩; subst hw; rw [hbt])
          go_roundw
          case rel => exact R.out.1
          case measure => rw [R.out.2, HC.out]; omega
      · have hh := decode_high s pos hlt (by omega)
        have HM := Lib.hid (noAny_multi hlt (by omega) HN.out)
        have HC := Lib.hid (iterPos_at HK.out)
        clear hk hb hn hat
        obtain ⟨r, k, hrk⟩ : ∃ r k, Utf8.decode s pos = (r, k) := ⟨_, _, rfl⟩
        rw [hrk] at hnx hd1 hd2 hd3 hh HM
        have hr1 : 128 ≤ r := hh.1
        have hr2 : r ≤ 1114111 := hd1
        have hk1 : 1 ≤ k := hd2
        have hk2 : pos + k ≤ s.size := hd3
        clear hh hd1 hd2 hd3 hrk
        go_wp2_with (go_at_call 182; refine (runeHi_any (r : Int) _ (by omega) (by omega)).mono ?_; rintro e w3 ⟨rfl, hb3⟩; have R := Lib.hid (anyRel_next HK.out hk2 HB.out HM.out hb3); clear hb3)
        go_roundw
        case rel => exact R.out.1
        case measure => rw [R.out.2, HC.out]; omega
    · have hnx : ∀ ty, (Instr.next (.pointer (some ⟨w2.heap.size, 0, none⟩)) true ty).run Tryz.prog wr = _ := fun ty => Lib.run_next_end_at wr _ s pos ty hk hlt
      have R := Lib.hid (show Lib.indexAny s.data.toList hardL = -1 from Lib.indexAny_none (by rw [← Lib.size_eq, show s.size = pos by omega]; exact HN.out))
      clear hk hb hn
      go_wp2
      go_ret
      exact ⟨ret_int R.out.symm, HB.out⟩

theorem zeroSet : ∀ w, (zeroValue 269).run Tryz.prog w = .ok (.agg (Array.replicate 256 (.bool false))) w := (zero_of_info (n := 256) (by kernel_rfl)).1

theorem any_any (s : ByteArray) (w : World) (hs : s.size < 4294967281) :
    Calls Tryz.prog 133 #[.string s, .string ⟨#[0, 47]⟩] w fun e w' => e = .returned (.int .i64 (Lib.indexAny s.data.toList hardL)) ∧ Below w.heap.size w w' := by
  by_cases h8 : s.size ≤ 8
  · exact anyShort s w h8
  · refine (Tryz.strings_IndexAny_long zeroSet s ⟨#[0, 47]⟩ w (by decide) (by omega) hs (by decide) (fun j b hb => ?_)).mono ?_
    · match j, hb with
      | 0, hb => simp at hb; subst hb; decide
      | 1, hb => simp at hb; subst hb; decide
      | j + 2, hb => simp at hb
    · rintro e w' ⟨rfl, rfl⟩
      exact ⟨rfl, ((Below.refl _ _).alloc (Nat.le_refl _) _).alloc (by simp) _⟩

theorem contains_any (s : ByteArray) (w : World) (hs : s.size < 4294967281) :
    Calls Tryz.prog 81 #[.string s, .string ⟨#[0, 47]⟩] w fun e w' => e = .returned (.bool (decide (0 ≤ Lib.indexAny s.data.toList hardL))) ∧ Below w.heap.size w w' := by
  have H := Lib.hid (any_any s w hs)
  go_enter Tryz.func81, Tryz.ntmps81
  go_wp2_with (go_at_call 133; refine H.out.mono ?_; rintro e w2 ⟨rfl, hb⟩; have HB := Lib.hid hb; clear hb)
  go_ret
  exact ⟨rfl, HB.out⟩

/-- Is it a good name? -/
def goodB (s : ByteArray) : Bool := decide (1 ≤ s.size) && (decide (s.size ≤ 255) && (!(s.toList == [46]) && (!(s.toList == [46, 46]) && !(decide (0 ≤ Lib.indexAny s.data.toList hardL)))))

set_option maxHeartbeats 2000000 in
theorem good_any (s : ByteArray) (w : World) :
    Calls Tryz.prog 36 #[.string s] w fun e w' => e = .returned (.bool (goodB s)) ∧ Below w.heap.size w w' := by
  by_cases h1 : s.size < 1
  · have HG := Lib.hid (show goodB s = false from by unfold goodB; rw [show decide (1 ≤ s.size) = false from decide_eq_false (by omega)]; rfl)
    have d1 : decide ((s.size : Int) < 1) = true := decide_eq_true (by omega)
    go_enter Tryz.func36, Tryz.ntmps36
    go_wp2
    go_ret
    exact ⟨ret_bool HG.out.symm, Below.refl _ _⟩
  by_cases h2 : 255 < s.size
  · have HG := Lib.hid (show goodB s = false from by unfold goodB; rw [show decide (s.size ≤ 255) = false from decide_eq_false (by omega)]; cases decide (1 ≤ s.size) <;> rfl)
    have d1 : decide ((s.size : Int) < 1) = false := decide_eq_false (by omega)
    have d2 : decide ((255 : Int) < (s.size : Int)) = true := decide_eq_true (by omega)
    go_enter Tryz.func36, Tryz.ntmps36
    go_wp2
    go_ret
    exact ⟨ret_bool HG.out.symm, Below.refl _ _⟩
  have d1 : decide ((s.size : Int) < 1) = false := decide_eq_false (by omega)
  have d2 : decide ((255 : Int) < (s.size : Int)) = false := decide_eq_false (by omega)
  have HG := Lib.hid (show goodB s = (!(s.toList == [46]) && (!(s.toList == [46, 46]) && !(decide (0 ≤ Lib.indexAny s.data.toList hardL)))) from by
    unfold goodB; rw [show decide (1 ≤ s.size) = true from decide_eq_true (by omega), show decide (s.size ≤ 255) = true from decide_eq_true (by omega)]; rfl)
  have HC := Lib.hid (contains_any s w (by omega))
  clear h1 h2
  cases e1 : s.toList == [46] with
  | true =>
    have n1 : s.toList = [46] := by simpa using e1
    have HE := Lib.hid e1
    clear e1
    go_enter Tryz.func36, Tryz.ntmps36
    go_wp2
    go_ret
    exact ⟨ret_bool (by rw [HG.out, HE.out]; rfl), Below.refl _ _⟩
  | false =>
    have n1 : ¬ s.toList = [46] := by simpa using e1
    have HE := Lib.hid e1
    clear e1
    cases e2 : s.toList == [46, 46] with
    | true =>
      have n2 : s.toList = [46, 46] := by simpa using e2
      clear n1
      have HE2 := Lib.hid e2
      clear e2
      go_enter Tryz.func36, Tryz.ntmps36
      go_wp2
      go_ret
      exact ⟨ret_bool (by rw [HG.out, HE.out, HE2.out]; rfl), Below.refl _ _⟩
    | false =>
      have n2 : ¬ s.toList = [46, 46] := by simpa using e2
      have HE2 := Lib.hid e2
      clear e2
      go_enter Tryz.func36, Tryz.ntmps36
      go_wp2_with (go_at_call 81; refine HC.out.mono ?_; rintro e w2 ⟨rfl, hb⟩; have HB := Lib.hid hb; clear hb)
      go_ret
      exact ⟨ret_bool (by rw [HG.out, HE.out, HE2.out]; simp), HB.out⟩

/-- Is it a good text of a link? -/
def textB (s : ByteArray) : Bool := decide (1 ≤ s.size) && (decide (s.size ≤ 4096) && decide (Lib.indexByte s.data.toList 0 < 0))
set_option maxHeartbeats 2000000 in
theorem goodText_any (s : ByteArray) (w : World) :
    Calls Tryz.prog 181 #[.string s] w fun e w' => e = .returned (.bool (textB s)) ∧ w = w' := by
  by_cases h1 : 1 ≤ s.size
  · have d1 : decide ((1 : Int) ≤ (s.size : Int)) = true := decide_eq_true (by omega)
    by_cases h2 : s.size ≤ 4096
    · have d2 : decide ((s.size : Int) ≤ 4096) = true := decide_eq_true (by omega)
      have HG := Lib.hid (show textB s = decide (Lib.indexByte s.data.toList 0 < 0) from by unfold textB; rw [decide_eq_true h1, decide_eq_true h2]; rfl)
      go_enter Tryz.func181, Tryz.ntmps181
      go_wp2_with (go_at_call 70; refine (Tryz.strings_IndexByte s 0 w).mono ?_; rintro e w2 ⟨rfl, hw⟩; subst hw)
      go_ret
      exact ⟨ret_bool (by rw [HG.out]), rfl⟩
    · have d2 : decide ((s.size : Int) ≤ 4096) = false := decide_eq_false (by omega)
      have HG := Lib.hid (show textB s = false from by unfold textB; rw [decide_eq_false h2]; cases decide (1 ≤ s.size) <;> rfl)
      go_enter Tryz.func181, Tryz.ntmps181
      go_wp2
      go_ret
      exact ⟨ret_bool HG.out.symm, rfl⟩
  · have d1 : decide ((1 : Int) ≤ (s.size : Int)) = false := decide_eq_false (by omega)
    have HG := Lib.hid (show textB s = false from by unfold textB; rw [decide_eq_false h1]; rfl)
    go_enter Tryz.func181, Tryz.ntmps181
    go_wp2
    go_ret
    exact ⟨ret_bool HG.out.symm, rfl⟩
end Go.Proofs.YtknfhphhcnbndaaGreatDoor.V
