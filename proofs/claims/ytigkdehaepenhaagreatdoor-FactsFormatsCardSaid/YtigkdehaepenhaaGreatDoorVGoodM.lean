/-
  What strings.IndexRune returns of a text of a byte 0 and a slash, and a character from 128 on: -1. Conditions: the character is one of Unicode's numbers.
  Hard bytes of a name: a byte 0 and a slash; where a text has none. Conditions: none.
-/
import Derived.Test.YtigkdehaepenhaaGreatDoorShelf
import Derived.Test.YtigkdehaepenhaaGreatDoorVFs
import Derived.Scope
import Derived.Deep.QuietTactic
import Derived.BigQuiet
import Derived.Lib.SpaceUEq
import Derived.Laws.RangeAny
import Derived.Lib.IndexAny
namespace Go.Proofs.YtigkdehaepenhaaGreatDoor.V
open Go.RowKit

def hardT : ByteArray := ⟨#[0, 47]⟩
def RuneRel (w : World) (wr : World) : Prop := ∃ pos : Nat, wr.heap[w.heap.size]? = some (.stringIter ⟨#[0, 47]⟩ pos) ∧ pos ≤ 2 ∧ Below w.heap.size w wr
theorem iterPos_at {w : World} {k : Nat} {s : ByteArray} {pos : Nat} (h : w.heap[k]? = some (.stringIter s pos)) : w.iterPos k = pos := by
  unfold World.iterPos; rw [h]
theorem runeRel_next {w wr : World} {pos pos' : Nat} (hk : wr.heap[w.heap.size]? = some (.stringIter ⟨#[0, 47]⟩ pos)) (hp : pos' ≤ 2) (hb : Below w.heap.size w wr) : RuneRel w (wr.iterAt w.heap.size ⟨#[0, 47]⟩ pos') :=
  ⟨pos', Lib.iterAt_heap wr _ _ pos pos' hk, hp, Lib.below_iterAt hb (Nat.le_refl _) _ _⟩

theorem below_drewN' {B n : Nat} {w w' : World} (hb : Below B w w') : Below B w (w'.drewN n) := ⟨hb.os, hb.tape, hb.output, hb.size, hb.block⟩

set_option maxRecDepth 100000 in
set_option maxHeartbeats 4000000 in
theorem runeHi_any (r : Int) (w : World) (h0 : 128 ≤ r) (h1 : r ≤ 1114111) :
    Calls Tryz.prog 151 #[.string ⟨#[0, 47]⟩, .int .i32 r] w fun e w' => e = .returned (.int .i64 (-1)) ∧ Below w.heap.size w w' := by
  by_cases hr : r = 65533
  · subst hr
    go_enter Tryz.func151, Tryz.ntmps151
    go_wp2
    go_loopw [] (RuneRel w) (fun w' => 2 - w'.iterPos w.heap.size)
    case atStart => exact ⟨0, World.iter_heap w _ 0, Nat.zero_le _, (Below.refl _ _).alloc (Nat.le_refl _) _⟩
    case round =>
      obtain ⟨pos, hk, hp, hb⟩ := hrel
      have HK := Lib.hid hk
      have HB := Lib.hid hb
      rcases (show pos = 0 ∨ pos = 1 ∨ pos = 2 from by omega) with rfl | rfl | rfl
      · have hnx : ∀ ty, (Instr.next (.pointer (some ⟨w.heap.size, 0, none⟩)) true ty).run Tryz.prog wr = .ok (.tuple #[.bool true, .int .i64 0, .int .i32 0]) (wr.iterAt w.heap.size ⟨#[0, 47]⟩ 1) := fun ty => Lib.run_next_any_at wr _ ⟨#[0, 47]⟩ 0 ty hk (by decide)
        have R := Lib.hid (runeRel_next hk (show 1 ≤ 2 by omega) hb)
        clear hk hb
        go_wp2
        go_roundw
        case rel => exact R.out
        case measure => rw [iterPos_at (Lib.iterAt_heap wr _ _ _ 1 HK.out), iterPos_at HK.out]; omega
      · have hnx : ∀ ty, (Instr.next (.pointer (some ⟨w.heap.size, 0, none⟩)) true ty).run Tryz.prog wr = .ok (.tuple #[.bool true, .int .i64 1, .int .i32 47]) (wr.iterAt w.heap.size ⟨#[0, 47]⟩ 2) := fun ty => Lib.run_next_any_at wr _ ⟨#[0, 47]⟩ 1 ty hk (by decide)
        have R := Lib.hid (runeRel_next hk (show 2 ≤ 2 by omega) hb)
        clear hk hb
        go_wp2
        go_roundw
        case rel => exact R.out
        case measure => rw [iterPos_at (Lib.iterAt_heap wr _ _ _ 2 HK.out), iterPos_at HK.out]; omega
      · have hnx : ∀ ty, (Instr.next (.pointer (some ⟨w.heap.size, 0, none⟩)) true ty).run Tryz.prog wr = _ := fun ty => Lib.run_next_end_at wr _ ⟨#[0, 47]⟩ 2 ty hk (by decide)
        clear hk hb
        go_wp2
        go_ret
        exact ⟨rfl, HB.out⟩
  · have b0 : (r == 65533) = false := by simp [hr]
    by_cases hv : Lib.validRune r = true
    · go_enter Tryz.func151, Tryz.ntmps151
      go_wp2_with (go_at_call 161; refine (Tryz.utf8_ValidRune r _).mono ?_; rintro e w2 ⟨rfl, hw⟩; subst hw; rw [hv])
      obtain ⟨t2, t4, tl⟩ := encode_facts r (by rw [validRune_eq]; exact hv) h0
      have hw1 : wrap64 (((Utf8.encode r).size : Int) - 1) = ((Utf8.encode r).size : Int) - 1 := by unfold wrap64; omega
      have TL := Lib.hid tl
      clear tl
      refine wp_scope_straight ?_
      go_wp2
      generalize Utf8.encode r = t at *
      go_loopw [9] (fun v wr => v = .int .i64 ((t.size : Int) - 1) ∧ wr = w2) (fun _ _ => 0)
      case atStart => exact ⟨rfl, rfl⟩
      case round =>
        obtain ⟨rfl, rfl⟩ := hrel
        by_cases h2 : t.size = 2
        · have h1s : (t.size : Int) - 1 = 1 := by omega
          have hlt : 1 < t.size := by omega
          have hb : 128 ≤ (t[1]'hlt).toNat := by
            have := TL.out (by omega)
            have e : t.size - 1 = 1 := by omega
            simp only [e] at this
            exact this
          have hne : ((47 : Int) != ((t[1]'hlt).toNat : Int)) = true := by
            rw [bne_iff_ne]; omega
          have hw2 : IntKind.i64.wrap 2 = 2 := by decide
          rw [h1s]
          clear TL
          go_wp2
          refine wp_scope_straight ?_
          go_wp2
          go_quiet (fail)
          go_wp2
          have HB3 := Lib.hid (show Below wr.heap.size wr (wr.drewN nq) from ⟨rfl, rfl, rfl, Nat.le_refl _, fun _ _ => rfl⟩)
          have hib : ∀ c, Lib.indexByte [] c = -1 := fun _ => rfl
          have hib2 : ∀ c, Lib.indexByte ByteArray.empty.data.toList c = -1 := fun _ => rfl
          generalize wr.drewN nq = w3 at *
          go_quiet (first | (go_at_call 45; refine Calls.quiet_of_same (Tryz.strings_IndexByte _ _ _)))
          go_wp2
          · rw [Exit.noGoto_ret]
            go_wp2
            rw [Exit.noGoto_ret]
            go_wp2
            go_ret
            exact ⟨rfl, below_drewN' HB3.out⟩
          · exfalso
            have q : ((((⟨#[0, 47]⟩ : ByteArray)[1]'(by decide)).toNat : Int) != ((t[1]'hlt).toNat : Int)) = false := by assumption
            have q2 : ((((⟨#[0, 47]⟩ : ByteArray)[1]'(by decide)).toNat : Int) != ((t[1]'hlt).toNat : Int)) = true := hne
            rw [q2] at q
            cases q
        · have hge : ¬ ((t.size : Int) - 1 < 2) := by omega
          go_wp2
          go_ret
          exact ⟨rfl, Below.refl _ _⟩
    · have hv' : Lib.validRune r = false := by simpa using hv
      clear hv
      go_enter Tryz.func151, Tryz.ntmps151
      go_wp2_with (go_at_call 161; refine (Tryz.utf8_ValidRune r _).mono ?_; rintro e w2 ⟨rfl, hw⟩; subst hw; rw [hv'])
      go_ret
      exact ⟨rfl, Below.refl _ _⟩
end Go.Proofs.YtigkdehaepenhaaGreatDoor.V

namespace Go.Proofs.YtigkdehaepenhaaGreatDoor.V
open Go.RowKit

def hardL : List UInt8 := [0, 47]
theorem hard_of {b : UInt8} : hardL.contains b = true ↔ b = 0 ∨ b = 47 := by simp [hardL]
theorem hard_high {b : UInt8} (h : 128 ≤ b.toNat) : hardL.contains b = false := by
  rw [← Bool.not_eq_true, hard_of]
  rintro (rfl | rfl) <;> simp at h

theorem get_at {s : ByteArray} {i : Nat} (h : i < s.size) : s.data.toList[i]? = some (s.get! i) := by
  have h' : i < s.data.toList.length := by rw [← Lib.size_eq]; exact h
  rw [List.getElem?_eq_getElem h', ← Lib.getD_get!' s i, List.getD_eq_getElem?_getD, List.getElem?_eq_getElem h']
  rfl
theorem get_bang {s : ByteArray} {i : Nat} (h : i < s.size) : s.get! i = s[i]'h := by
  have h2 := get_at h
  rw [Lib.data_getElem? s i h] at h2
  exact (Option.some.inj h2).symm

/-- A character from 128 on holds no hard byte. -/
theorem noAny_multi {s : ByteArray} {pos : Nat} (h : pos < s.size) (hb : 128 ≤ (s[pos]'h).toNat) (hn : Lib.NoAny s.data.toList hardL pos) : Lib.NoAny s.data.toList hardL (pos + (Utf8.decode s pos).2) := by
  have hc := Lib.decodeN_conts (s.size - pos) (s.get! pos).toNat (s.get! (pos + 1)).toNat (s.get! (pos + 2)).toNat (s.get! (pos + 3)).toNat
  rw [← Lib.decode_at] at hc
  obtain ⟨c2, c3, c4, c5⟩ := hc
  intro j b hj hjb
  by_cases hlt : j < pos
  · exact hn j b hlt hjb
  · have hjs : j < s.size := by
      have := (List.getElem?_eq_some_iff.1 hjb).1
      rwa [← Lib.size_eq] at this
    have e : b = s.get! j := by
      rw [get_at hjs] at hjb
      exact (Option.some.inj hjb).symm
    refine hard_high ?_
    subst e
    rcases (show j = pos ∨ j = pos + 1 ∨ j = pos + 2 ∨ j = pos + 3 from by omega) with rfl | rfl | rfl | rfl
    · rw [get_bang h]; exact hb
    · have := (c2 (by omega)).1; omega
    · have := (c3 (by omega)).1; omega
    · have := (c4 (by omega)).1; omega
end Go.Proofs.YtigkdehaepenhaaGreatDoor.V
