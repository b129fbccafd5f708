/-
  What walks of later layers lean on: rows that a call has made, as they lie in memory. Conditions: each fact's own.
  What the quotients, the cut sums and their references return: contracts of digits.Ceil, digits.addTwo, digits.Add and of the reference's Ceil and Add. Conditions: the arguments are int64s.
  What digits.Dec and the laws' own first question return: the decimal digits of a number; true. Conditions: the library's table of powers of ten lies as its text lays it.
  What the library's count of trailing noughts returns at 8 and at 16. Conditions: the library's table lies as its text lays it.
  What the reference's Digits returns: the digits of a number in a base. Conditions: the number is a uint64, the base lies in 2 .. 16.
  What the reference's Dec returns: the decimal digits, with a minus ahead of those of a number below 0. Conditions: the number is an int64.
  What the library's formatting of a uint64 in a base of 8 or 16 returns: its digits. Conditions: the library's table lies as its text lays it.
  A region that draws its order, whose operation number z waits for others and may write what they read: what is said of the world (S) holds till z comes up, and no longer; and what append does with a row behind it (stage 6's texts, apart from file systems). Conditions: each law's own.
  Rows whose members are of several cells each: what came in, and what a call has made. Conditions: each fact's own.
  Members of several cells stored into a row that a call has made; rows of zeros; what growth keeps. Conditions: each fact's own.
  Rows as they lie in memory, read whole or in part; what several new blocks keep; rows of different types lie apart. Conditions: each fact's own.
  Plain facts on formats, ahead of stage 5: a format written directive by directive; one behind the other; how long it gets; numbers in two and three digits. Conditions: none.
  What a fact's format tells of a node: directive by directive. Conditions: none.
  What facts' what, quoted and told return: what a directive tells of a node. Conditions: the node's numbers are within their bounds, texts of at most 60000 bytes; the library's tables and the table of classes lie.
-/
import Derived.Test.YtigkdehaepenhaaGreatDoorRows
import Derived.WalkKit
import Derived.WalkSpells
import Derived.WalkLawsBesides
import Derived.OwnWalk
import Derived.Lib.Hide
import Derived.Lib.OthersKept
import Derived.Laws.AppendOwn
import Derived.Deep.QuietTactic
import Derived.BigQuiet
import Derived.Deep.CutRange
import Derived.Deep.MidRow
import Derived.Test.YtigkdehaepenhaaGreatDoorShelf
import Derived.WalkSmall
import Derived.Lib.LaidTab
import Derived.Lib.AppendIntMem
import Derived.Laws.Concat
import Derived.Lib.ItoaNum
import Derived.Lib.AtoiErrMem
import Derived.Lib.ItoaMem
import Derived.Laws.IdiomStrings
import Derived.Deep.RegionHeld3
import Derived.Laws.AppendOwnNone
import Derived.Deep.AppendLies
import Derived.Test.YtigkdehaepenhaaGreatDoorFPMark
import Derived.Lib.IndexLaws
import Derived.Lib.ItoaLen
set_option linter.unusedVariables false
set_option linter.unusedSimpArgs false
namespace Go.Proofs.YtigkdehaepenhaaGreatDoor.B
open Go.RowKit

theorem ret_int {k : IntKind} {a b : Int} (h : a = b) : Ending.returned (.int k a) = .returned (.int k b) := by rw [h]
theorem ret_bool {a b : Bool} (h : a = b) : Ending.returned (.bool a) = .returned (.bool b) := by rw [h]
theorem below_two {w a b : World} (h : Below w.heap.size w a) (k : Below a.heap.size a b) : Below w.heap.size w b := h.trans (k.mono h.size)
theorem below_drewNb {B n : Nat} {w w' : World} (hb : Below B w w') : Below B w (w'.drewN n) := ⟨hb.os, hb.tape, hb.output, hb.size, hb.block⟩
theorem heap_lt {w : World} {k : Nat} {o : Obj} (h : w.heap[k]? = some o) : k < w.heap.size := by
  apply Classical.byContradiction
  intro hn
  rw [Array.getElem?_eq_none (by omega)] at h
  cases h

theorem owns_setCell {w : World} {base : Nat} {e : TypeId} {size g n cap : Nat} {xs : List Value} (h : w.ownsRow base e size (.slice (some ⟨g, 0, none⟩) n cap) n xs) {j : Nat} (hj : j < xs.length) (u : Value) :
    (w.setCell ⟨g, j, none⟩ u).ownsRow base e size (.slice (some ⟨g, 0, none⟩) n cap) n (xs.set j u) := by
  obtain ⟨hl, h⟩ := h
  refine ⟨by rw [List.length_set]; exact hl, ?_⟩
  rcases h with ⟨h, _⟩ | ⟨g', cap', cur, hv, hb, hg, hnc, hcm, hcs, ht⟩
  · cases h
  · simp only [Value.slice.injEq, Option.some.injEq, Addr.mk.injEq] at hv
    obtain ⟨⟨rfl, _, _⟩, _, rfl⟩ := hv
    refine .inr ⟨g, cap, cur.setIfInBounds j u, rfl, hb, heap_setCell_same w g j cur e u hg, hnc, hcm, by rw [Array.size_setIfInBounds]; exact hcs, ?_⟩
    rw [Array.toList_setIfInBounds, List.take_set, ht]
theorem owns_frozen {w : World} {base : Nat} {e : TypeId} {size g n cap : Nat} {xs : List Value} (h : w.ownsRow base e size (.slice (some ⟨g, 0, none⟩) n cap) n xs) (j : Nat) : w.frozen? ⟨g, j, none⟩ = false := by
  rcases h.2 with ⟨h, _⟩ | ⟨g', cap', cur, hv, hb, hg, _⟩
  · cases h
  · simp only [Value.slice.injEq, Option.some.injEq, Addr.mk.injEq] at hv
    obtain ⟨⟨rfl, _, _⟩, _, _⟩ := hv
    exact frozen_of_row w g j cur e hg
theorem owns_cell {w : World} {base : Nat} {e : TypeId} {size g n cap : Nat} {xs : List Value} (h : w.ownsRow base e size (.slice (some ⟨g, 0, none⟩) n cap) n xs) {j : Nat} {u : Value} (hu : xs[j]? = some u) : w.cell? ⟨g, j, none⟩ = some u := by
  have := h.cells (g := g) rfl j u hu
  have hadd : (⟨g, 0, none⟩ : Addr).add j = ⟨g, j, none⟩ := by unfold Addr.add; split <;> simp_all
  rwa [hadd] at this
theorem owns_some {w : World} {base : Nat} {e : TypeId} {size n : Nat} {v : Value} {xs : List Value} (h : w.ownsRow base e size v n xs) (hn : 0 < n) : ∃ g cap, v = .slice (some ⟨g, 0, none⟩) n cap ∧ n ≤ cap ∧ cap ≤ maxLen := by
  rcases h.2 with ⟨_, h⟩ | ⟨g, cap, cur, hv, hb, hg, hnc, hcm, _⟩
  · omega
  · exact ⟨g, cap, hv, hnc, hcm⟩
theorem owns_at {w w' : World} {base : Nat} {e : TypeId} {size n : Nat} {v : Value} {xs : List Value} (h : w.ownsRow base e size v n xs) (hk : ∀ k, v.ownBlock = some k → w'.heap[k]? = w.heap[k]?) : w'.ownsRow base e size v n xs := by
  refine ⟨h.1, ?_⟩
  rcases h.2 with hn | ⟨g, cap, cur, rfl, hb, hgg, rest⟩
  · exact .inl hn
  · exact .inr ⟨g, cap, cur, rfl, hb, (hk g rfl).trans hgg, rest⟩
theorem owns_type {w : World} {base : Nat} {e : TypeId} {size n : Nat} {v : Value} {xs : List Value} (h : w.ownsRow base e size v n xs) {k : Nat} (hk : v.ownBlock = some k) : ∃ cur, w.heap[k]? = some (.cells cur e (0, 0)) := by
  rcases h.2 with ⟨rfl, _⟩ | ⟨g, cap, cur, rfl, hb, hgg, rest⟩
  · cases hk
  · cases hk
    exact ⟨cur, hgg⟩

theorem owns_keep {w w' : World} {e : TypeId} {size n : Nat} {v : Value} {xs : List Value} (h : w.ownsRow 0 e size v n xs) (hb : Below w.heap.size w w') : w'.ownsRow 0 e size v n xs := owns_at h fun k hk => hb.block k (h.lt k hk).2
theorem owns_to {w w' : World} {b : Nat} {e : TypeId} {size n : Nat} {v : Value} {xs : List Value} (h : w.ownsRow b e size v n xs) (hb : Below w.heap.size w w') : w'.ownsRow b e size v n xs := owns_at h fun k hk => hb.block k (h.lt k hk).2
theorem owns_form {w : World} {base : Nat} {e : TypeId} {size n : Nat} {v : Value} {xs : List Value} (h : w.ownsRow base e size v n xs) : ∃ ao cap, v = .slice ao n cap := by
  rcases h.2 with ⟨rfl, rfl⟩ | ⟨g, cap, _, rfl, _⟩
  · exact ⟨_, _, rfl⟩
  · exact ⟨_, _, rfl⟩
theorem size_list (s : ByteArray) : s.data.toList.length = s.size := by simp
theorem list_at {s : ByteArray} {k : Nat} (h : k < s.size) : s.data.toList[k]? = some (s[k]'h) := by
  rw [List.getElem?_eq_getElem (by simpa using h)]
  rfl
def strs (l : List ByteArray) : List Value := l.map Value.string
end Go.Proofs.YtigkdehaepenhaaGreatDoor.B

namespace Go.Proofs.YtigkdehaepenhaaGreatDoor.N
open Go.RowKit

theorem ret_int {k : IntKind} {a b : Int} (h : a = b) : Ending.returned (.int k a) = .returned (.int k b) := by rw [h]

def ceilZ (n d : Int) : Int := if n < 1 ∨ d < 1 then 0 else (n - 1) / d + 1

set_option maxHeartbeats 400000 in
theorem ceil_any (n d : Int) (w : World) (h1 : -9223372036854775808 ≤ n) (h2 : n ≤ 9223372036854775807) (h3 : -9223372036854775808 ≤ d) (h4 : d ≤ 9223372036854775807) :
    Calls Tryz.prog 92 #[.int .i64 n, .int .i64 d] w fun e w' => e = .returned (.int .i64 (ceilZ n d)) ∧ w = w' := by
  by_cases hn : n < 1
  · go_enter Tryz.func92, Tryz.ntmps92
    go_wp2
    go_ret
    exact ⟨by simp [ceilZ, hn], rfl⟩
  · by_cases hd : d < 1
    · go_enter Tryz.func92, Tryz.ntmps92
      go_wp2
      go_ret
      exact ⟨by simp [ceilZ, hd], rfl⟩
    · have hq : (n - 1) / d ≤ n - 1 := Int.ediv_le_self _ (by omega)
      have hq0 : 0 ≤ (n - 1) / d := Int.ediv_nonneg (by omega) (by omega)
      go_enter Tryz.func92, Tryz.ntmps92
      go_wp2
      go_ret
      exact ⟨ret_int (by rw [ceilZ, if_neg (by omega)]), rfl⟩

theorem ceil_alt (n d : Int) (hn : 1 ≤ n) (hd : 1 ≤ d) : ceilZ n d = if 0 < n % d then n / d + 1 else n / d := by
  have e := Int.emod_add_mul_ediv n d
  have m0 := Int.emod_nonneg n (show d ≠ 0 by omega)
  have m1 := Int.emod_lt_of_pos n (show 0 < d by omega)
  rw [ceilZ, if_neg (by omega)]
  by_cases h : 0 < n % d
  · rw [if_pos h]
    have : (n - 1) / d = n / d := by
      refine (Int.ediv_emod_unique (r := n % d - 1) (show 0 < d by omega)).2 ⟨?_, ?_, ?_⟩ |>.1
      · omega
      · omega
      · omega
    omega
  · rw [if_neg h]
    have : (n - 1) / d = n / d - 1 := by
      refine (Int.ediv_emod_unique (r := d - 1) (show 0 < d by omega)).2 ⟨?_, ?_, ?_⟩ |>.1
      · rw [Int.mul_sub]; omega
      · omega
      · omega
    omega

set_option maxHeartbeats 400000 in
theorem refCeil_any (n d : Int) (w : World) (h1 : -9223372036854775808 ≤ n) (h2 : n ≤ 9223372036854775807) (h3 : -9223372036854775808 ≤ d) (h4 : d ≤ 9223372036854775807) :
    Calls Tryz.prog 27 #[.int .i64 n, .int .i64 d] w fun e w' => e = .returned (.int .i64 (ceilZ n d)) ∧ w = w' := by
  by_cases hn : n < 1
  · go_enter Tryz.func27, Tryz.ntmps27
    go_wp2
    go_ret
    exact ⟨by simp [ceilZ, hn], rfl⟩
  · by_cases hd : d < 1
    · go_enter Tryz.func27, Tryz.ntmps27
      go_wp2
      go_ret
      exact ⟨by simp [ceilZ, hd], rfl⟩
    · have hq : n / d ≤ n := Int.ediv_le_self _ (by omega)
      have hq0 : 0 ≤ n / d := Int.ediv_nonneg (by omega) (by omega)
      have ha := ceil_alt n d (by omega) (by omega)
      have HA := Lib.hid ha
      clear ha
      by_cases hm : 0 < n % d
      · have hlt : n / d < n := by
          by_cases h : d = 1
          · subst h; simp at hm
          · exact Int.ediv_lt_self_of_pos_of_ne_one (by omega) (by omega)
        go_enter Tryz.func27, Tryz.ntmps27
        go_wp2
        go_ret
        exact ⟨ret_int (by rw [HA.out, if_pos hm]), rfl⟩
      · go_enter Tryz.func27, Tryz.ntmps27
        go_wp2
        go_ret
        exact ⟨ret_int (by rw [HA.out, if_neg (by omega)]), rfl⟩

def cutZ (n : Int) : Int := if 9223372036854775807 < n then 9223372036854775807 else if n < -9223372036854775808 then -9223372036854775808 else n

theorem cutZ_bd (n : Int) : -9223372036854775808 ≤ cutZ n ∧ cutZ n ≤ 9223372036854775807 := by
  unfold cutZ; split <;> (try split) <;> omega

set_option maxHeartbeats 400000 in
theorem addTwo_any (a b : Int) (w : World) (h1 : -9223372036854775808 ≤ a) (h2 : a ≤ 9223372036854775807) (h3 : -9223372036854775808 ≤ b) (h4 : b ≤ 9223372036854775807) :
    Calls Tryz.prog 95 #[.int .i64 a, .int .i64 b] w fun e w' => e = .returned (.int .i64 (cutZ (a + b))) ∧ w = w' := by
  by_cases c1 : 0 < b
  · by_cases c2 : 9223372036854775807 - b < a
    · go_enter Tryz.func95, Tryz.ntmps95
      go_wp2
      go_ret
      exact ⟨ret_int (by rw [cutZ, if_pos (by omega)]), rfl⟩
    · go_enter Tryz.func95, Tryz.ntmps95
      go_wp2
      go_ret
      exact ⟨ret_int (by rw [cutZ, if_neg (by omega), if_neg (by omega)]), rfl⟩
  · by_cases c2 : b < 0
    · by_cases c3 : a < -9223372036854775808 - b
      · go_enter Tryz.func95, Tryz.ntmps95
        go_wp2
        go_ret
        exact ⟨ret_int (by rw [cutZ, if_neg (by omega), if_pos (by omega)]), rfl⟩
      · go_enter Tryz.func95, Tryz.ntmps95
        go_wp2
        go_ret
        exact ⟨ret_int (by rw [cutZ, if_neg (by omega), if_neg (by omega)]), rfl⟩
    · go_enter Tryz.func95, Tryz.ntmps95
      go_wp2
      go_ret
      exact ⟨ret_int (by rw [cutZ, if_neg (by omega), if_neg (by omega)]), rfl⟩
end Go.Proofs.YtigkdehaepenhaaGreatDoor.N

namespace Go.Proofs.YtigkdehaepenhaaGreatDoor.N
open Go.RowKit

/-- The table that the library reads, as its text lays it. -/
def Tab (w : World) : Prop := Lib.TabIs Tryz.prog w "internal/strconv.uint64pow10" .u64 Lib.pow10Tab

theorem gTab : Tryz.prog.globalNamed "internal/strconv.uint64pow10" = some 4 := by kernel_rfl

theorem var_lt {P : Program} {w : World} {n : String} {g : Nat} {cs : Array Value} (hg : P.globalNamed n = some g) (h : w.var? P n = some cs) : g < w.heap.size := by
  unfold World.var? at h
  simp only [hg, Option.bind_some] at h
  rcases Nat.lt_or_ge g w.heap.size with hl | hl
  · exact hl
  · rw [Array.getElem?_eq_none hl] at h
    simp at h

theorem Tab.keep {w w' : World} (h : Tab w) (hb : Below w.heap.size w w') : Tab w' :=
  var?_below hb gTab (var_lt gTab h) h

theorem below_two {w a b : World} (h : Below w.heap.size w a) (k : Below a.heap.size a b) : Below w.heap.size w b := h.trans (k.mono h.size)

theorem dec_any (n : Int) (w : World) (h1 : -9223372036854775808 ≤ n) (h2 : n ≤ 9223372036854775807) (ht : Tab w) :
    Calls Tryz.prog 82 #[.int .i64 n] w fun e w' => e = .returned (.string ⟨(Lib.itoa n).toArray⟩) ∧ Below w.heap.size w w' := by
  have HT := Lib.hid ht
  clear ht
  go_enter Tryz.func82, Tryz.ntmps82
  go_wp2_with fail
  refine (Tryz.strconv_FormatInt_10 n h1 h2 _ HT.out).mono ?_
  rintro e w' ⟨rfl, k, os, rfl⟩
  go_wp2_with fail
  go_ret
  exact ⟨rfl, Lib.below_grow _ _ (Nat.le_refl _) k os⟩

theorem itoa_seven : Lib.itoa (-7) = [45, 55] := by
  unfold Lib.itoa Lib.decDigits; simp

end Go.Proofs.YtigkdehaepenhaaGreatDoor.N

namespace Go.Proofs.YtigkdehaepenhaaGreatDoor.N
open Go.RowKit

/-- The two cells of the library's table that are read. -/
def TzTab (w : World) : Prop := w.cell? ⟨8, 7, none⟩ = some (.int .u8 3) ∧ w.cell? ⟨8, 15, none⟩ = some (.int .u8 4)

set_option maxHeartbeats 400000 in
theorem tz_eight (w : World) (ht : TzTab w) : Calls Tryz.prog 160 #[.int .u64 8] w fun e w' => e = .returned (.int .i64 3) ∧ w = w' := by
  obtain ⟨h1, _⟩ := ht
  have e8 : IntKind.u64.wrap (bits BinOp.and IntKind.u64 8 (IntKind.u64.wrap (-8)) * 285870213051353865) / 288230376151711744 = 7 := by decide +kernel
  go_enter Tryz.func160, Tryz.ntmps160
  go_wp2
  go_ret
  exact ⟨rfl, rfl⟩
set_option maxHeartbeats 400000 in
theorem tz_sixteen (w : World) (ht : TzTab w) : Calls Tryz.prog 160 #[.int .u64 16] w fun e w' => e = .returned (.int .i64 4) ∧ w = w' := by
  obtain ⟨_, h2⟩ := ht
  have e16 : IntKind.u64.wrap (bits BinOp.and IntKind.u64 16 (IntKind.u64.wrap (-16)) * 285870213051353865) / 288230376151711744 = 15 := by decide +kernel
  go_enter Tryz.func160, Tryz.ntmps160
  go_wp2
  go_ret
  exact ⟨rfl, rfl⟩
end Go.Proofs.YtigkdehaepenhaaGreatDoor.N

namespace Go.Proofs.YtigkdehaepenhaaGreatDoor.N
open Go.RowKit

/-- A digit. -/
def dch (d : Nat) : UInt8 := UInt8.ofNat (if d < 10 then 48 + d else 87 + d)

/-- The digits of n in the base b (2 or more), the first ahead. -/
def digB (b n : Nat) : List UInt8 :=
  if _h : n < b ∨ b < 2 then [dch n] else digB b (n / b) ++ [dch (n % b)]
termination_by n
decreasing_by exact Nat.div_lt_self (by omega) (by omega)

def hexText : ByteArray := ⟨#[48, 49, 50, 51, 52, 53, 54, 55, 56, 57, 97, 98, 99, 100, 101, 102]⟩
theorem hex_at : ∀ d : Fin 16, hexText.extract d.val (d.val + 1) = ⟨([dch d.val] : List UInt8).toArray⟩ := by decide +kernel

/-- What the reference's loop keeps: what is left of the number, and the digits so far. -/
def DigInv (b n m k : Nat) (l : List UInt8) : Prop := digB b n = (if k ≠ 0 ∧ m = 0 then [] else digB b m) ++ l ∧ m * 2 ^ k < 18446744073709551616

theorem dig_start (b n : Nat) (h : n < 18446744073709551616) : DigInv b n n 0 [] := by
  simp [DigInv, h]

theorem dig_step {b n m k : Nat} {l : List UInt8} (hb : 2 ≤ b) (h : DigInv b n m k l) (hc : k = 0 ∨ 0 < m) : DigInv b n (m / b) (k + 1) (dch (m % b) :: l) := by
  obtain ⟨h1, h2⟩ := h
  rw [if_neg (by omega)] at h1
  refine ⟨?_, ?_⟩
  · rw [h1]
    by_cases hm : m < b
    · rw [digB, dif_pos (.inl hm), Nat.div_eq_of_lt hm, Nat.mod_eq_of_lt hm]; simp
    · have : 0 < m / b := Nat.div_pos (by omega) (by omega)
      rw [digB, dif_neg (by omega), if_neg (by omega)]; simp
  · have e : m / b ≤ m / 2 := Nat.div_le_div_left hb (by decide)
    have : m / b * 2 ^ (k + 1) ≤ m * 2 ^ k := by
      rw [Nat.pow_succ, Nat.mul_comm (2 ^ k) 2, ← Nat.mul_assoc]
      exact Nat.mul_le_mul_right _ (by omega)
    omega

theorem dig_end {b n m k : Nat} {l : List UInt8} (h : DigInv b n m k l) (hc : 70 ≤ k ∨ (k ≠ 0 ∧ m = 0)) : l = digB b n := by
  obtain ⟨h1, h2⟩ := h
  have hm : m = 0 := by
    rcases hc with hc | hc
    · rcases Nat.eq_zero_or_pos m with h0 | h0
      · exact h0
      · have a : 2 ^ 70 ≤ 2 ^ k := Nat.pow_le_pow_right (by decide) hc
        have b : 1 * 2 ^ k ≤ m * 2 ^ k := Nat.mul_le_mul_right _ h0
        omega
    · exact hc.2
  rw [if_pos (by omega)] at h1
  rw [h1]; rfl

theorem hex_cons (m b : Int) (l : List UInt8) (h1 : 0 ≤ m % b) (h2 : m % b < 16) :
    (ByteArray.mk #[48, 49, 50, 51, 52, 53, 54, 55, 56, 57, 97, 98, 99, 100, 101, 102]).extract (m % b).toNat (m % b + 1).toNat ++ ⟨l.toArray⟩ = ⟨(dch (m % b).toNat :: l).toArray⟩ := by
  have e := hex_at ⟨(m % b).toNat, by omega⟩
  simp only at e
  rw [show (m % b + 1).toNat = (m % b).toNat + 1 by omega]
  unfold hexText at e
  rw [e, ByteArray.mk_append_mk]; rfl

theorem toNat_div (m b : Int) (h1 : 0 ≤ m) (h2 : 0 ≤ b) : m.toNat / b.toNat = (m / b).toNat := by
  obtain ⟨x, rfl⟩ := Int.eq_ofNat_of_zero_le h1
  obtain ⟨y, rfl⟩ := Int.eq_ofNat_of_zero_le h2
  rw [← Int.natCast_ediv, Int.toNat_natCast, Int.toNat_natCast, Int.toNat_natCast]
theorem toNat_mod (m b : Int) (h1 : 0 ≤ m) (h2 : 0 ≤ b) : m.toNat % b.toNat = (m % b).toNat := by
  obtain ⟨x, rfl⟩ := Int.eq_ofNat_of_zero_le h1
  obtain ⟨y, rfl⟩ := Int.eq_ofNat_of_zero_le h2
  rw [← Int.natCast_emod, Int.toNat_natCast, Int.toNat_natCast, Int.toNat_natCast]
theorem ret_txt {a b : List UInt8} (h : a = b) : Ending.returned (.string ⟨a.toArray⟩) = .returned (.string ⟨b.toArray⟩) := by rw [h]

set_option maxHeartbeats 1000000 in
theorem refDigits_any (n b : Int) (w : World) (h1 : 0 ≤ n) (h2 : n ≤ 18446744073709551615) (h3 : 2 ≤ b) (h4 : b ≤ 16) :
    Calls Tryz.prog 51 #[.int .u64 n, .int .u64 b] w fun e w' => e = .returned (.string ⟨(digB b.toNat n.toNat).toArray⟩) ∧ ∃ k, w' = w.drewN k := by
  go_enter Tryz.func51, Tryz.ntmps51
  go_wp2
  go_loopw [0, 5, 6] (fun a s i wr => ∃ (m k : Int) (l : List UInt8), a = .int .u64 m ∧ i = .int .i64 k ∧ s = .string ⟨l.toArray⟩ ∧ 0 ≤ m ∧ m ≤ 18446744073709551615 ∧ 0 ≤ k ∧ k ≤ 70 ∧ l.length ≤ k ∧ Hid (DigInv b.toNat n.toNat m.toNat k.toNat l) ∧ ∃ j, wr = w.drewN j) (fun _ _ i _ => (70 - intOf i).toNat)
  case atStart => exact ⟨n, 0, [], rfl, rfl, rfl, h1, h2, by omega, by omega, by simp, Lib.hid (dig_start _ _ (by omega)), 0, rfl⟩
  case round =>
    obtain ⟨m, k, l, rfl, rfl, rfl, m0, m1, k0, k1, hl, hinv, j, rfl⟩ := hrel
    by_cases c : k < 70 ∧ (k = 0 ∨ 0 < m)
    · obtain ⟨c0, c1⟩ := c
      have r0 : 0 ≤ m % b := Int.emod_nonneg _ (by omega)
      have r1 : m % b < b := Int.emod_lt_of_pos _ (by omega)
      have q0 : 0 ≤ m / b := Int.ediv_nonneg (by omega) (by omega)
      have q1 : m / b ≤ m := Int.ediv_le_self _ (by omega)
      have ST := Lib.hid (dig_step (by omega) hinv.out (by omega))
      rw [toNat_div m b m0 (by omega), toNat_mod m b m0 (by omega), show k.toNat + 1 = (k + 1).toNat by omega] at ST
      by_cases c2 : k = 0
      · subst c2
        clear c1
        go_wp2
        go_quiet (fail)
        go_wp2
        rw [hex_cons m b l r0 (by omega)]
        go_roundw
        case rel => exact ⟨m / b, 1, _, rfl, rfl, rfl, by omega, by omega, by omega, by omega, by simp only [List.length_cons]; omega, ST, _, rfl⟩
        case measure => simp [intOf]
      · have c1i : (k == 0) = false := beq_eq_false_iff_ne.2 c2
        have c3 : 0 < m := by omega
        clear c1 c2
        go_wp2
        go_quiet (fail)
        go_wp2
        rw [hex_cons m b l r0 (by omega)]
        go_roundw
        case rel => exact ⟨m / b, k + 1, _, rfl, rfl, rfl, by omega, by omega, by omega, by omega, by simp only [List.length_cons]; omega, ST, _, rfl⟩
        case measure => simp [intOf]; omega
    · have EN := Lib.hid (dig_end hinv.out (by omega))
      by_cases c0 : k < 70
      · have c1i : (k == 0) = false := beq_eq_false_iff_ne.2 (by omega)
        have c2 : m ≤ 0 := by omega
        clear c
        go_wp2
        go_ret
        exact ⟨ret_txt EN.out, j, rfl⟩
      · clear c
        go_wp2
        go_ret
        exact ⟨ret_txt EN.out, j, rfl⟩
end Go.Proofs.YtigkdehaepenhaaGreatDoor.N

namespace Go.Proofs.YtigkdehaepenhaaGreatDoor.N
open Go.RowKit

theorem digB_length (b : Nat) (hb : 2 ≤ b) : ∀ (k n : Nat), n < 2 ^ (k + 1) → (digB b n).length ≤ k + 1
  | 0, n, h => by rw [digB, dif_pos (by left; simp at h; omega)]; simp
  | k + 1, n, h => by
    by_cases hn : n < b
    · rw [digB, dif_pos (.inl hn)]; simp
    · have e : n / b ≤ n / 2 := Nat.div_le_div_left hb (by decide)
      have := digB_length b hb k (n / b) (by rw [Nat.pow_succ] at h; omega)
      rw [digB, dif_neg (by omega), List.length_append]
      simp only [List.length_cons, List.length_nil]; omega

theorem digB_ten (n : Nat) : digB 10 n = Lib.decDigits n := by
  induction n using Nat.strongRecOn with
  | _ n ih =>
    rw [digB, Lib.decDigits]
    by_cases h : n < 10
    · rw [dif_pos (.inl h), dif_pos h, dch, if_pos h]
    · rw [dif_neg (by omega), dif_neg h, ih (n / 10) (by omega), dch, if_pos (by omega)]

theorem digB_size (b n : Int) (hb : 2 ≤ b) (hn : n ≤ 18446744073709551615) : (digB b.toNat n.toNat).length ≤ 64 :=
  digB_length b.toNat (by omega) 63 n.toNat (by omega)

set_option maxHeartbeats 400000 in
theorem refDec_any (n : Int) (w : World) (h1 : -9223372036854775808 ≤ n) (h2 : n ≤ 9223372036854775807) :
    Calls Tryz.prog 50 #[.int .i64 n] w fun e w' => e = .returned (.string ⟨(Lib.itoa n).toArray⟩) ∧ ∃ k, w' = w.drewN k := by
  by_cases hn : 0 ≤ n
  · go_enter Tryz.func50, Tryz.ntmps50
    go_wp2_with fail
    refine (refDigits_any _ _ _ (by omega) (by omega) (by omega) (by omega)).mono ?_
    rintro e w' ⟨rfl, k, rfl⟩
    have E := Lib.hid (show digB (10 : Int).toNat n.toNat = Lib.itoa n by rw [show (10 : Int).toNat = 10 from rfl, digB_ten, Lib.itoa, if_neg (by omega)])
    rw [E.out]
    go_wp2_with fail
    go_ret
    exact ⟨rfl, k, rfl⟩
  · go_enter Tryz.func50, Tryz.ntmps50
    go_wp2_with fail
    refine (refDigits_any _ _ _ (by omega) (by omega) (by omega) (by omega)).mono ?_
    rintro e w' ⟨rfl, k, rfl⟩
    have hz := digB_size 10 (-(n + 1) + 1) (by omega) (by omega)
    have E := Lib.hid (show (45 : UInt8) :: digB (10 : Int).toNat (-(n + 1) + 1).toNat = Lib.itoa n by rw [show (10 : Int).toNat = 10 from rfl, digB_ten, Lib.itoa, if_pos (by omega), show (-(n + 1) + 1).toNat = n.natAbs by omega])
    generalize digB (10 : Int).toNat (-(n + 1) + 1).toNat = l at *
    have hadd := run_string_add_sum (P := Tryz.prog) (w.drewN k) ⟨#[45]⟩ ⟨l.toArray⟩ (by show 1 + l.toArray.size ≤ _; simp; omega)
    rw [show (⟨#[45]⟩ : ByteArray) ++ ⟨l.toArray⟩ = ⟨(45 :: l).toArray⟩ by rw [show (⟨#[45]⟩ : ByteArray) = ⟨([45] : List UInt8).toArray⟩ from rfl, ByteArray.mk_append_mk]; rfl, E.out] at hadd
    go_wp2_with fail
    go_ret
    exact ⟨rfl, k, rfl⟩
end Go.Proofs.YtigkdehaepenhaaGreatDoor.N

namespace Go.Proofs.YtigkdehaepenhaaGreatDoor.N
open Go.RowKit

/-- What the loop keeps in memory: a row of 65 bytes of the call's own, of which those from place i on are l. -/
structure Row65 (w wr : World) (B : Nat) (i : Int) (l : List UInt8) : Prop where
  bel : Below B w wr
  lt : B < wr.heap.size
  cell : ∀ t : Nat, t < 65 → ∃ z : Int, wr.cell? ⟨B, t, none⟩ = some (.int .u8 z)
  free : ∀ t : Nat, t < 65 → wr.frozen? ⟨B, t, none⟩ = false
  len : i.toNat + l.length = 65
  held : ∀ j : Nat, j < l.length → wr.cell? ⟨B, i.toNat + j, none⟩ = some (.int .u8 ((l.getD j 0).toNat : Int))

theorem pow_eight (w : World) : Calls Tryz.prog 159 #[.int .i64 8] w fun e w' => e = .returned (.bool true) ∧ w = w' := by
  have e8 : (bits BinOp.and IntKind.i64 8 7 == 0) = true := by decide +kernel
  go_enter Tryz.func159, Tryz.ntmps159
  go_wp2
  go_ret
  exact ⟨by rw [← e8]; rfl, rfl⟩
theorem pow_sixteen (w : World) : Calls Tryz.prog 159 #[.int .i64 16] w fun e w' => e = .returned (.bool true) ∧ w = w' := by
  have e8 : (bits BinOp.and IntKind.i64 16 15 == 0) = true := by decide +kernel
  go_enter Tryz.func159, Tryz.ntmps159
  go_wp2
  go_ret
  exact ⟨by rw [← e8]; rfl, rfl⟩

theorem TzTab.alloc {w : World} (h : TzTab w) (o : Obj) : TzTab (w.alloc o) := by
  have hb : Below w.heap.size w (w.alloc o) := (Below.refl _ _).alloc (Nat.le_refl _) o
  exact ⟨by rw [hb.cell (Lib.lt_of_cell h.1)]; exact h.1, by rw [hb.cell (Lib.lt_of_cell h.2)]; exact h.2⟩

theorem Row65.start (w : World) : Row65 w (w.alloc (.cells Tryz.zeroCells202 202)) w.heap.size 65 [] := by
  have e : Tryz.zeroCells202 = Array.replicate 65 (.int .u8 0) := by kernel_rfl
  refine ⟨(Below.refl _ _).alloc (Nat.le_refl _) _, by simp, fun t ht => ⟨0, ?_⟩, fun t _ => World.frozen?_alloc_new _ _ _ _, by decide, fun j hj => by simp at hj⟩
  rw [World.cell?_alloc_new, e, Array.getElem?_replicate, if_pos ht]

theorem Row65.store {w wr : World} {B : Nat} {k : Int} {l : List UInt8} (h : Row65 w wr B k l) (h1 : 1 ≤ k) (d : UInt8) :
    Row65 w (wr.setCell ⟨B, k.toNat - 1, none⟩ (.int .u8 (d.toNat : Int))) B (k - 1) (d :: l) := by
  have hl := h.len
  have hk : k.toNat - 1 < 65 := by omega
  have ek : (k - 1).toNat = k.toNat - 1 := by omega
  obtain ⟨z, hz⟩ := h.cell _ hk
  have other : ∀ t : Nat, t ≠ k.toNat - 1 → (wr.setCell ⟨B, k.toNat - 1, none⟩ (.int .u8 (d.toNat : Int))).cell? ⟨B, t, none⟩ = wr.cell? ⟨B, t, none⟩ := fun t ht =>
    World.cell?_setCell_other _ _ _ _ (by intro e; injection e with _ e2; omega)
  refine ⟨h.bel.setCell (Nat.le_refl _) _, by rw [World.size_setCell]; exact h.lt, fun t ht => ?_, fun t ht => by rw [World.frozen?_setCell]; exact h.free t ht, by rw [List.length_cons]; omega, fun j hj => ?_⟩
  · by_cases e : t = k.toNat - 1
    · subst e; exact ⟨_, World.cell?_setCell_same _ _ _ hz⟩
    · rw [other t e]; exact h.cell t ht
  · rw [ek]
    cases j with
    | zero => exact World.cell?_setCell_same _ _ _ hz
    | succ i =>
      have hi : i < l.length := by simpa using hj
      rw [other _ (by omega), show k.toNat - 1 + (i + 1) = k.toNat + i by omega, h.held i hi]
      simp

def digText : ByteArray := ⟨#[48, 49, 50, 51, 52, 53, 54, 55, 56, 57, 97, 98, 99, 100, 101, 102, 103, 104, 105, 106, 107, 108, 109, 110, 111, 112, 113, 114, 115, 116, 117, 118, 119, 120, 121, 122]⟩
theorem digText_at : ∀ d : Fin 16, digText.data.toList.getD d.val 0 = dch d.val := by decide +kernel

theorem dig_index (P : Program) (t : TypeId) (ht : P.underlying t = some .string) (z : Int) (d : Nat) (hz : z = (d : Int)) (hd : d < 16) (W : World) :
    (Instr.index t (.string ⟨#[48, 49, 50, 51, 52, 53, 54, 55, 56, 57, 97, 98, 99, 100, 101, 102, 103, 104, 105, 106, 107, 108, 109, 110, 111, 112, 113, 114, 115, 116, 117, 118, 119, 120, 121, 122]⟩) (.int .u64 z)).run P W = .ok (.int .u8 ((dch d).toNat : Int)) W := by
  subst hz
  have hs : digText.size = 36 := by decide +kernel
  show (Instr.index t (.string digText) (.int .u64 (d : Int))).run P W = _
  rw [run_index_string W t digText .u64 _ ht, dif_pos ⟨by omega, by rw [hs]; omega⟩]
  simp only [Int.toNat_natCast]
  rw [Lib.getD_at digText d (by rw [hs]; omega)]
  have := digText_at ⟨d, hd⟩
  simp only at this
  rw [this]

theorem arr65 : Tryz.prog.arrayLen 202 = 65 := by simp [Program.arrayLen, Tryz.underlying202]
theorem arrT : Tryz.prog.underlying 202 = some (.array (Tryz.prog.arrayLen 202) (Tryz.prog.elem 202)) := by
  simp [Program.arrayLen, Program.elem, Tryz.underlying202]

theorem tail_slice (B : Nat) (k : Int) (h1 : 1 ≤ k) (h2 : k ≤ 65) (W : World) :
    (Instr.sliceAt 202 (.pointer (some ⟨B, 0, none⟩)) (some (.int .i64 (k - 1))) none none).run Tryz.prog W = .ok (.slice (some ⟨B, k.toNat - 1, none⟩) (65 - (k.toNat - 1)) (65 - (k.toNat - 1))) W := by
  rw [run_sliceAt_array_l W 202 ⟨B, 0, none⟩ arrT .i64 (k - 1) (by omega) (by rw [arr65]; omega), arr65]
  go_simp
  omega

theorem tail_text {w wr : World} {B : Nat} {k : Int} {l : List UInt8} (h : Row65 w wr B (k - 1) l) (h1 : 1 ≤ k) :
    (convert 104 9 (.slice (some ⟨B, k.toNat - 1, none⟩) (65 - (k.toNat - 1)) (65 - (k.toNat - 1)))).run Tryz.prog wr = .ok (.string ⟨l.toArray⟩) wr := by
  have hl := h.len
  have := run_convert_bytes_back (P := Tryz.prog) wr 104 9 5 ⟨B, k.toNat - 1, none⟩ (65 - (k.toNat - 1)) l Tryz.underlying104 Tryz.underlying5 Tryz.underlying9 (fun j hj => by
    rw [Lib.add_plain]
    have := h.held j hj
    rw [show (k - 1).toNat = k.toNat - 1 by omega] at this
    rw [this]
    simp [List.getD_eq_getElem?_getD, hj])
  rw [show l.length = 65 - (k.toNat - 1) by omega] at this
  exact this

theorem dig_len {b n m : Nat} {l : List UInt8} (hb : 2 ≤ b) (hn : n ≤ 18446744073709551615) (h : digB b n = digB b m ++ l) : l.length ≤ 63 := by
  have a := digB_length b hb 63 n (by omega)
  rw [h, List.length_append] at a
  have : 1 ≤ (digB b m).length := by rw [digB]; split <;> simp
  omega

theorem dig_next {b n m : Nat} {l : List UInt8} (hb : 2 ≤ b) (h : digB b n = digB b m ++ l) (hm : b ≤ m) : digB b n = digB b (m / b) ++ (dch (m % b) :: l) := by
  rw [h, digB, dif_neg (by omega)]; simp

theorem dig_last {b n m : Nat} {l : List UInt8} (h : digB b n = digB b m ++ l) (hm : m < b) : dch m :: l = digB b n := by
  rw [h, digB, dif_pos (.inl hm)]; rfl

theorem ret_pair {a b : List UInt8} (h : a = b) : Ending.returned (.tuple #[.slice none 0 0, .string ⟨a.toArray⟩]) = .returned (.tuple #[.slice none 0 0, .string ⟨b.toArray⟩]) := by rw [h]

set_option maxHeartbeats 1000000 in
set_option maxRecDepth 100000 in
theorem bits_eight (n : Int) (w : World) (h1 : 0 ≤ n) (h2 : n ≤ 18446744073709551615) (ht : TzTab w) :
    Calls Tryz.prog 148 #[.slice none 0 0, .int .u64 n, .int .i64 8, .bool false, .bool false] w fun e w' => e = .returned (.tuple #[.slice none 0 0, .string ⟨(digB 8 n.toNat).toArray⟩]) ∧ Below w.heap.size w w' := by
  have HT := Lib.hid ht
  clear ht
  go_enter Tryz.func148, Tryz.ntmps148
  go_wp2_with fail
  refine (pow_eight _).mono ?_
  rintro e w' ⟨rfl, rfl⟩
  go_wp2_with fail
  refine (tz_eight _ (HT.out.alloc _)).mono ?_
  rintro e w' ⟨rfl, rfl⟩
  go_wp2_with fail
  go_loopw [1, 13] (fun u i wr => ∃ (m k : Int) (l : List UInt8), u = .int .u64 m ∧ i = .int .i64 k ∧ 0 ≤ m ∧ m ≤ 18446744073709551615 ∧ 2 ≤ k ∧ k ≤ 65 ∧ Hid (digB 8 n.toNat = digB 8 m.toNat ++ l) ∧ Hid (Row65 w wr w.heap.size k l)) (fun _ i _ => (intOf i).toNat)
  case atStart => exact ⟨n, 65, [], rfl, rfl, h1, h2, by omega, by omega, Lib.hid (by simp), Lib.hid (Row65.start w)⟩
  case round =>
    obtain ⟨m, k, l, rfl, rfl, m0, m1, k0, k1, hd, hr⟩ := hrel
    rename World => wr
    obtain ⟨z, hc⟩ := hr.out.cell (k.toNat - 1) (by omega)
    have hf := hr.out.free (k.toNat - 1) (by omega)
    by_cases c : 8 ≤ m
    · have hx := dig_index Tryz.prog 9 Tryz.underlying9 (bits .and .u64 m 7) (m.toNat % 8) (by rw [u64_and m 7 m0 (by omega) (by omega) (by omega), show (7 : Int).toNat = 2 ^ 3 - 1 from rfl, Nat.and_two_pow_sub_one_eq_mod]) (by omega)
      have ND := Lib.hid (dig_next (by omega) hd.out (show 8 ≤ m.toNat by omega))
      have NL := Lib.hid (dig_len (by omega) (by omega) ND.out)
      have NR := Lib.hid (hr.out.store (by omega) (dch (m.toNat % 8)))
      have hk : 3 ≤ k := by have := NL.out; have := hr.out.len; simp only [List.length_cons] at this NL; have := NL.out; omega
      have em : (m / 8).toNat = m.toNat / 8 := by omega
      have EM := Lib.hid em
      clear em
      go_wp2
      go_roundw
      case rel => exact ⟨m / 8, k - 1, _, rfl, rfl, by omega, by omega, by omega, by omega, by rw [EM.out]; exact ND, NR⟩
      case measure => simp [intOf]; omega
    · have hx := dig_index Tryz.prog 9 Tryz.underlying9 m m.toNat (by omega) (by omega)
      have ND := Lib.hid (dig_last hd.out (show m.toNat < 8 by omega))
      have NR := Lib.hid (hr.out.store (by omega) (dch m.toNat))
      have hsl := tail_slice w.heap.size k (by omega) (by omega)
      have hcv := tail_text NR.out (by omega)
      rw [ND.out] at hcv
      generalize hD : digB 8 n.toNat = D at *
      have HD := Lib.hid hD
      clear hD
      go_wp2
      go_ret2
      exact ⟨ret_pair HD.out.symm, NR.out.bel⟩

set_option maxHeartbeats 1000000 in
set_option maxRecDepth 100000 in
theorem bits_sixteen (n : Int) (w : World) (h1 : 0 ≤ n) (h2 : n ≤ 18446744073709551615) (ht : TzTab w) :
    Calls Tryz.prog 148 #[.slice none 0 0, .int .u64 n, .int .i64 16, .bool false, .bool false] w fun e w' => e = .returned (.tuple #[.slice none 0 0, .string ⟨(digB 16 n.toNat).toArray⟩]) ∧ Below w.heap.size w w' := by
  have HT := Lib.hid ht
  clear ht
  go_enter Tryz.func148, Tryz.ntmps148
  go_wp2_with fail
  refine (pow_sixteen _).mono ?_
  rintro e w' ⟨rfl, rfl⟩
  go_wp2_with fail
  refine (tz_sixteen _ (HT.out.alloc _)).mono ?_
  rintro e w' ⟨rfl, rfl⟩
  go_wp2_with fail
  go_loopw [1, 13] (fun u i wr => ∃ (m k : Int) (l : List UInt8), u = .int .u64 m ∧ i = .int .i64 k ∧ 0 ≤ m ∧ m ≤ 18446744073709551615 ∧ 2 ≤ k ∧ k ≤ 65 ∧ Hid (digB 16 n.toNat = digB 16 m.toNat ++ l) ∧ Hid (Row65 w wr w.heap.size k l)) (fun _ i _ => (intOf i).toNat)
  case atStart => exact ⟨n, 65, [], rfl, rfl, h1, h2, by omega, by omega, Lib.hid (by simp), Lib.hid (Row65.start w)⟩
  case round =>
    obtain ⟨m, k, l, rfl, rfl, m0, m1, k0, k1, hd, hr⟩ := hrel
    rename World => wr
    obtain ⟨z, hc⟩ := hr.out.cell (k.toNat - 1) (by omega)
    have hf := hr.out.free (k.toNat - 1) (by omega)
    by_cases c : 16 ≤ m
    · have hx := dig_index Tryz.prog 9 Tryz.underlying9 (bits .and .u64 m 15) (m.toNat % 16) (by rw [u64_and m 15 m0 (by omega) (by omega) (by omega), show (15 : Int).toNat = 2 ^ 4 - 1 from rfl, Nat.and_two_pow_sub_one_eq_mod]) (by omega)
      have ND := Lib.hid (dig_next (by omega) hd.out (show 16 ≤ m.toNat by omega))
      have NL := Lib.hid (dig_len (by omega) (by omega) ND.out)
      have NR := Lib.hid (hr.out.store (by omega) (dch (m.toNat % 16)))
      have hk : 3 ≤ k := by have := NL.out; have := hr.out.len; simp only [List.length_cons] at this NL; have := NL.out; omega
      have em : (m / 16).toNat = m.toNat / 16 := by omega
      have EM := Lib.hid em
      clear em
      go_wp2
      go_roundw
      case rel => exact ⟨m / 16, k - 1, _, rfl, rfl, by omega, by omega, by omega, by omega, by rw [EM.out]; exact ND, NR⟩
      case measure => simp [intOf]; omega
    · have hx := dig_index Tryz.prog 9 Tryz.underlying9 m m.toNat (by omega) (by omega)
      have ND := Lib.hid (dig_last hd.out (show m.toNat < 16 by omega))
      have NR := Lib.hid (hr.out.store (by omega) (dch m.toNat))
      have hsl := tail_slice w.heap.size k (by omega) (by omega)
      have hcv := tail_text NR.out (by omega)
      rw [ND.out] at hcv
      generalize hD : digB 16 n.toNat = D at *
      have HD := Lib.hid hD
      clear hD
      go_wp2
      go_ret2
      exact ⟨ret_pair HD.out.symm, NR.out.bel⟩

def oneOf (b : Int) : Prop := b = 8 ∨ b = 16

set_option maxHeartbeats 400000 in
theorem formatI_any (n b : Int) (w : World) (h1 : 0 ≤ n) (h2 : n ≤ 18446744073709551615) (hb : oneOf b) (ht : TzTab w) :
    Calls Tryz.prog 131 #[.int .u64 n, .int .i64 b] w fun e w' => e = .returned (.string ⟨(digB b.toNat n.toNat).toArray⟩) ∧ Below w.heap.size w w' := by
  have HT := Lib.hid ht
  clear ht
  rcases hb with rfl | rfl
  · go_enter Tryz.func131, Tryz.ntmps131
    go_wp2_with fail
    refine (bits_eight _ _ h1 h2 HT.out).mono ?_
    rintro e w' ⟨rfl, hb⟩
    have HB := Lib.hid hb
    clear hb
    go_wp2_with fail
    go_ret
    exact ⟨rfl, HB.out⟩
  · go_enter Tryz.func131, Tryz.ntmps131
    go_wp2_with fail
    refine (bits_sixteen _ _ h1 h2 HT.out).mono ?_
    rintro e w' ⟨rfl, hb⟩
    have HB := Lib.hid hb
    clear hb
    go_wp2_with fail
    go_ret
    exact ⟨rfl, HB.out⟩

theorem formatU_any (n b : Int) (w : World) (h1 : 0 ≤ n) (h2 : n ≤ 18446744073709551615) (hb : oneOf b) (ht : TzTab w) :
    Calls Tryz.prog 110 #[.int .u64 n, .int .i64 b] w fun e w' => e = .returned (.string ⟨(digB b.toNat n.toNat).toArray⟩) ∧ Below w.heap.size w w' := by
  have HT := Lib.hid ht
  have HO := Lib.hid hb
  clear ht hb
  go_enter Tryz.func110, Tryz.ntmps110
  go_wp2_with fail
  refine (formatI_any _ _ _ h1 h2 HO.out HT.out).mono ?_
  rintro e w' ⟨rfl, hb⟩
  have HB := Lib.hid hb
  clear hb
  go_wp2_with fail
  go_ret
  exact ⟨rfl, HB.out⟩

theorem oct_any (n : Int) (w : World) (h1 : 0 ≤ n) (h2 : n ≤ 18446744073709551615) (ht : TzTab w) :
    Calls Tryz.prog 83 #[.int .u64 n] w fun e w' => e = .returned (.string ⟨(digB (8 : Int).toNat n.toNat).toArray⟩) ∧ Below w.heap.size w w' := by
  have HT := Lib.hid ht
  clear ht
  go_enter Tryz.func83, Tryz.ntmps83
  go_wp2_with fail
  refine (formatU_any _ _ _ h1 h2 (.inl rfl) HT.out).mono ?_
  rintro e w' ⟨rfl, hb⟩
  have HB := Lib.hid hb
  clear hb
  go_wp2_with fail
  go_ret
  exact ⟨rfl, HB.out⟩


theorem TzTab.keep {w w' : World} (h : TzTab w) (hb : Below w.heap.size w w') : TzTab w' :=
  ⟨by rw [hb.cell (Lib.lt_of_cell h.1)]; exact h.1, by rw [hb.cell (Lib.lt_of_cell h.2)]; exact h.2⟩
end Go.Proofs.YtigkdehaepenhaaGreatDoor.N

namespace Go.Proofs.YtigkdehaepenhaaGreatDoor.B
open Go.RowKit

section
variable {P : Program} {ops : Array Oper} {Q : Exit → Act → World → Prop} {md : Region.Mode} {S : World → Prop} {z : Nat}

/-- In whatever order the rest comes up, all is well; S holds behind each operation but z. -/
def Till (P : Program) (md : Region.Mode) (ops : Array Oper) (Q : Exit → Act → World → Prop) (S : World → Prop) (z : Nat) : Nat → Array Bool → Act → World → Prop
  | 0 => fun up a w => Region.ready md ops up = [] ∧ Q .normal a w
  | n + 1 => fun up a w => (Region.ready md ops up = [] → Q .normal a w) ∧ ∀ i, i ∈ Region.ready md ops up → wpOp P ops Q i (fun a' w' => (i ≠ z → S w') ∧ Till P md ops Q S z n (up.setIfInBounds i true) a' w') a w
theorem Till.any : ∀ {n : Nat} {up : Array Bool} {a : Act} {w : World}, Till P md ops Q S z n up a w → wpAny P md ops Q n up a w
  | 0, _, _, _, h => h
  | n + 1, _, _, _, h => ⟨h.1, fun i hi => wpOp_mono (fun _ _ q => Till.any q.2) (h.2 i hi)⟩
theorem Till.region {id : Nat} {a : Act} {w : World} (hm : P.follows .mixedOrders = true) (hS : S w.drew) (h : S w.drew → Till P .any ops Q S z ops.size (Array.replicate ops.size false) a w.drew) : (Code.region id ops true).wp P Q a w :=
  wp_region_any hm (Till.any (h hS))
/-- Does z wait for i? -/
def waitsB (md : Region.Mode) (ops : Array Oper) (z i : Nat) : Bool := match ops[z]? with
  | some o => o.after.any fun e => Region.binds md e && e.on == i
  | none => false
theorem waits_not {i j : Nat} {up : Array Bool} (hz : waitsB md ops z i = true) (hi : i ∈ Region.ready md ops up) (hj : j ∈ Region.ready md ops up) : j ≠ z := by
  rintro rfl
  obtain ⟨_, o, ho, hall⟩ := mem_ready.1 hj
  unfold waitsB at hz
  rw [ho] at hz
  obtain ⟨e, he, hb⟩ := Array.any_eq_true'.1 hz
  simp only [Bool.and_eq_true, beq_iff_eq] at hb
  have h1 := hall e he hb.1
  rw [hb.2] at h1
  have h0 := (mem_ready.1 hi).1
  rcases Nat.lt_or_ge i up.size with q | q
  · simp [q] at h0 h1
    rw [h0] at h1
    cases h1
  · simp [Array.getElem?_eq_none q] at h1
theorem Till.front {i : Nat} {oi : Oper} {v : Value} (hi : ops[i]? = some oi) (hsel : ∀ (j : Nat) (o : Oper) cs b, ops[j]? = some o → o.op ≠ .select cs b) (hQ : ∀ c a w, Q (.panic c) (a.put oi.dst v) w → Q (.panic c) a w) (hz : waitsB md ops z i = true) :
    ∀ (n : Nat) (up : Array Bool) (a : Act) (w : World), (∀ j oj, ops[j]? = some oj → j ≠ i → up.getD j true = false → (∀ e ∈ oj.after, Region.binds md e = true → e.on ≠ i) → oi.apart ops oj = true) → i ∈ Region.ready md ops up → YieldsIf P ops S oi v a → S w →
      Till P md ops Q S z n (up.setIfInBounds i true) (a.put oi.dst v) w → Till P md ops Q S z (n + 1) up a w := by
  have one : ∀ {K : Act → World → Prop} {a : Act} {w : World}, YieldsIf P ops S oi v a → S w → K (a.put oi.dst v) w → wpOp P ops Q i K a w := fun hy hS hK => hy.wpOp hi hS hK
  have none : ∀ {up : Array Bool} {C : Prop}, i ∈ Region.ready md ops up → Region.ready md ops up = [] → C := fun hr h => by rw [h] at hr; cases hr
  intro n
  induction n with
  | zero =>
    intro up a w _ hr hy hS T
    refine ⟨none hr, fun j hj => ?_⟩
    rcases Classical.em (j = i) with e | e
    · rw [e]; exact one hy hS ⟨fun _ => hS, T⟩
    · have m := ready_mono (i := i) hj e
      rw [T.1] at m
      cases m
  | succ n ih =>
    intro up a w hfree hr hy hS T
    refine ⟨none hr, fun j hj => ?_⟩
    rcases Classical.em (j = i) with e | e
    · rw [e]; exact one hy hS ⟨fun _ => hS, T⟩
    · have hjz : j ≠ z := waits_not hz hr hj
      obtain ⟨hup, oj, hoj, hall⟩ := mem_ready.1 hj
      have hun : ∀ d ∈ oj.after, Region.binds md d = true → d.on ≠ i := fun d hd hb q => by
        have h1 := hall d hd hb
        rw [q] at h1
        have h0 := (mem_ready.1 hr).1
        rcases Nat.lt_or_ge i up.size with g | g
        · simp [g] at h0 h1
          rw [h0] at h1
          cases h1
        · simp [Array.getElem?_eq_none g] at h1
      have step := wpOp_putIf hoj (hfree j oj hoj e hup hun) (fun cs b => hsel i oi cs b hi) (fun cs b => hsel j oj cs b hoj) hQ hy (T.2 j (ready_mono hj e))
      refine wpOp_mono (fun a' w' q => ⟨fun _ => q.2.1 hjz, ih _ a' w' (fun k ok hk hki hku hkn => hfree k ok hk hki ?_ hkn) (ready_mono hr (Ne.symm e)) q.1 (q.2.1 hjz) ?_⟩) step
      · rcases Classical.em (j = k) with g | g
        · rw [← g]; exact hup
        · rw [getD_set_ne true g] at hku; exact hku
      · rw [Array.setIfInBounds_comm _ _ e]
        exact q.2.2
theorem Till.take {i : Nat} {oi : Oper} {v : Value} {n : Nat} {up : Array Bool} {a : Act} {w : World} (hi : ops[i]? = some oi) (hs : Region.noSelect ops = true) (hf : Region.free md ops up i = true) (hr : (Region.ready md ops up).contains i = true) (hz : waitsB md ops z i = true)
    (hQ : ∀ c a w, Q (.panic c) (a.put oi.dst v) w → Q (.panic c) a w) (hy : YieldsIf P ops S oi v a) (hS : S w) (h : Till P md ops Q S z n (up.setIfInBounds i true) (a.put oi.dst v) w) : Till P md ops Q S z (n + 1) up a w :=
  Till.front hi (Region.noSelect_spec hs) hQ hz n up a w (Region.free_spec hi hf) (by simpa using hr) hy hS h
theorem Till.next {i : Nat} {o : Oper} {n : Nat} {up : Array Bool} {a : Act} {w : World} (hr : Region.ready md ops up = [i]) (ho : ops[i]? = some o)
    (h : ∀ K : Act → World → Prop, Shut (∀ a w, (i ≠ z → S w) → Till P md ops Q S z n (up.setIfInBounds i true) a w → K a w) → if Region.wanted o (yielded ops a.tmps) = true then Oper.wp P o a w K Q else K (a.put o.dst undef) w) : Till P md ops Q S z (n + 1) up a w := by
  refine ⟨fun e => absurd e (by rw [hr]; exact List.cons_ne_nil _ _), fun j hj => ?_⟩
  rw [hr] at hj
  obtain rfl := List.mem_singleton.1 hj
  exact wpOp_step ho fun K hK => h K (fun a w hS hT => hK a w ⟨hS, hT⟩)
theorem Till.done {n : Nat} {up : Array Bool} {a : Act} {w : World} (hr : Region.ready md ops up = []) (h : Q .normal a w) : Till P md ops Q S z n up a w := by
  match n with
  | 0 => exact And.intro hr h
  | n + 1 =>
    refine ⟨fun _ => h, fun i hi => ?_⟩
    rw [hr] at hi
    cases hi
theorem Till.two {i j : Nat} {o o' : Oper} {n : Nat} {up : Array Bool} {a : Act} {w : World} (hr : Region.ready md ops up = [i, j]) (ho : ops[i]? = some o) (ho' : ops[j]? = some o')
    (h : ∀ K : Act → World → Prop, Shut (∀ a w, (i ≠ z → S w) → Till P md ops Q S z n (up.setIfInBounds i true) a w → K a w) → if Region.wanted o (yielded ops a.tmps) = true then Oper.wp P o a w K Q else K (a.put o.dst undef) w)
    (h' : ∀ K : Act → World → Prop, Shut (∀ a w, (j ≠ z → S w) → Till P md ops Q S z n (up.setIfInBounds j true) a w → K a w) → if Region.wanted o' (yielded ops a.tmps) = true then Oper.wp P o' a w K Q else K (a.put o'.dst undef) w) : Till P md ops Q S z (n + 1) up a w := by
  refine ⟨fun e => absurd e (by rw [hr]; exact List.cons_ne_nil _ _), fun k hk => ?_⟩
  rw [hr] at hk
  have hk2 : k = i ∨ k = j := by simpa using hk
  rcases hk2 with q | q
  · rw [q]; exact wpOp_step ho fun K hK => h K (fun a w hS hT => hK a w ⟨hS, hT⟩)
  · rw [q]; exact wpOp_step ho' fun K hK => h' K (fun a w hS hT => hK a w ⟨hS, hT⟩)
/-- As Till's, where S holds behind every operation. -/
theorem Till.frontA {i : Nat} {oi : Oper} {v : Value} (hi : ops[i]? = some oi) (hsel : ∀ (j : Nat) (o : Oper) cs b, ops[j]? = some o → o.op ≠ .select cs b) (hQ : ∀ c a w, Q (.panic c) (a.put oi.dst v) w → Q (.panic c) a w) (hz : ops[z]? = none) :
    ∀ (n : Nat) (up : Array Bool) (a : Act) (w : World), (∀ j oj, ops[j]? = some oj → j ≠ i → up.getD j true = false → (∀ e ∈ oj.after, Region.binds md e = true → e.on ≠ i) → oi.apart ops oj = true) → i ∈ Region.ready md ops up → YieldsIf P ops S oi v a → S w →
      Till P md ops Q S z n (up.setIfInBounds i true) (a.put oi.dst v) w → Till P md ops Q S z (n + 1) up a w := by
  have one : ∀ {K : Act → World → Prop} {a : Act} {w : World}, YieldsIf P ops S oi v a → S w → K (a.put oi.dst v) w → wpOp P ops Q i K a w := fun hy hS hK => hy.wpOp hi hS hK
  have none : ∀ {up : Array Bool} {C : Prop}, i ∈ Region.ready md ops up → Region.ready md ops up = [] → C := fun hr h => by rw [h] at hr; cases hr
  intro n
  induction n with
  | zero =>
    intro up a w _ hr hy hS T
    refine ⟨none hr, fun j hj => ?_⟩
    rcases Classical.em (j = i) with e | e
    · rw [e]; exact one hy hS ⟨fun _ => hS, T⟩
    · have m := ready_mono (i := i) hj e
      rw [T.1] at m
      cases m
  | succ n ih =>
    intro up a w hfree hr hy hS T
    refine ⟨none hr, fun j hj => ?_⟩
    rcases Classical.em (j = i) with e | e
    · rw [e]; exact one hy hS ⟨fun _ => hS, T⟩
    · obtain ⟨hup, oj, hoj, hall⟩ := mem_ready.1 hj
      have hjz : j ≠ z := fun q => by
        rw [q, hz] at hoj
        cases hoj
      have hun : ∀ d ∈ oj.after, Region.binds md d = true → d.on ≠ i := fun d hd hb q => by
        have h1 := hall d hd hb
        rw [q] at h1
        have h0 := (mem_ready.1 hr).1
        rcases Nat.lt_or_ge i up.size with g | g
        · simp [g] at h0 h1
          rw [h0] at h1
          cases h1
        · simp [Array.getElem?_eq_none g] at h1
      have step := wpOp_putIf hoj (hfree j oj hoj e hup hun) (fun cs b => hsel i oi cs b hi) (fun cs b => hsel j oj cs b hoj) hQ hy (T.2 j (ready_mono hj e))
      refine wpOp_mono (fun a' w' q => ⟨fun _ => q.2.1 hjz, ih _ a' w' (fun k ok hk hki hku hkn => hfree k ok hk hki ?_ hkn) (ready_mono hr (Ne.symm e)) q.1 (q.2.1 hjz) ?_⟩) step
      · rcases Classical.em (j = k) with g | g
        · rw [← g]; exact hup
        · rw [getD_set_ne true g] at hku; exact hku
      · rw [Array.setIfInBounds_comm _ _ e]
        exact q.2.2
theorem Till.takeA {i : Nat} {oi : Oper} {v : Value} {n : Nat} {up : Array Bool} {a : Act} {w : World} (hi : ops[i]? = some oi) (hs : Region.noSelect ops = true) (hf : Region.free md ops up i = true) (hr : (Region.ready md ops up).contains i = true) (hz : ops[z]? = none)
    (hQ : ∀ c a w, Q (.panic c) (a.put oi.dst v) w → Q (.panic c) a w) (hy : YieldsIf P ops S oi v a) (hS : S w) (h : Till P md ops Q S z n (up.setIfInBounds i true) (a.put oi.dst v) w) : Till P md ops Q S z (n + 1) up a w :=
  Till.frontA hi (Region.noSelect_spec hs) hQ hz n up a w (Region.free_spec hi hf) (by simpa using hr) hy hS h
end

section
variable {P : Program} {w : World}
theorem wp_append_row {o : Oper} {a : Act} {K : Act → World → Prop} {Q : Exit → Act → World → Prop} (s x : Operand) (t : TypeId)
    (ho : o.op = .call { callee := .builtin .append, args := #[s, x], argTypes := #[t, t] })
    (base : Nat) (e : TypeId) (i : TypeInfo) (z : Value) (size bytes : Nat) (ht : P.underlying t = some (.slice e)) (hi : P.info? e = some i) (hz : i.zero = some z)
    (hsize : i.size = size) (hby : i.bytes = bytes) (hzs : z.cells.size = size) (hsz : 0 < size)
    (v : Value) (n : Nat) (xs : List Value) (hs : a.eval s = v) (hown : w.ownsRow base e size v n xs) (u : Value) (m : Nat) (ys : List Value) (hx : a.eval x = u) (hsrc : w.ownsRow 0 e size u m ys) (h1 : ∀ y ∈ ys, y.oneCell' = true)
    (h63 : n + m ≤ maxLen) (hbytes : (n + m) * bytes ≤ 140737488355328) (hbase : base ≤ w.heap.size)
    (h : ∀ v' w', w'.ownsRow base e size v' (n + m) (xs ++ ys) → w.grownBy w' v.ownBlock → K (a.put o.dst v') w') : o.wp P a w K Q := by
  rcases hsrc.2 with ⟨rfl, rfl⟩ | ⟨g, cap, cur, rfl, _⟩
  · have hy : ys = [] := List.eq_nil_of_length_eq_zero (by simpa using hsrc.1)
    subst hy
    have hrun := run_append_owned_none (P := P) (w := w) base t o.type e i size ht hi v n xs hown
    unfold Oper.wp
    simp [execOp, ho, resolve, invoke, builtin, hs, hx, hrun, Result.andThen]
    exact h _ _ (by simpa using hown) ⟨rfl, rfl, rfl, Nat.le_refl _, fun _ _ _ => rfl⟩
  · exact wp_append_own w s x t ho base e i z size bytes ht hi hz hsize hby hzs hsz v n xs hs hown ⟨g, 0, none⟩ m cap ys hx hsrc.1 (hsrc.cells rfl) h1 h63 hbytes hbase (fun v' w' p q _ => h v' w' p q)
theorem wpList_append_row {ops : Array Oper} {rest : List Oper} {o : Oper} {a : Act} {Q : Exit → Act → World → Prop} (hgd : o.guard = none) (s x : Operand) (t : TypeId)
    (ho : o.op = .call { callee := .builtin .append, args := #[s, x], argTypes := #[t, t] })
    (base : Nat) (e : TypeId) (i : TypeInfo) (z : Value) (size bytes : Nat) (ht : P.underlying t = some (.slice e)) (hi : P.info? e = some i) (hz : i.zero = some z)
    (hsize : i.size = size) (hby : i.bytes = bytes) (hzs : z.cells.size = size) (hsz : 0 < size)
    (v : Value) (n : Nat) (xs : List Value) (hs : a.eval s = v) (hown : w.ownsRow base e size v n xs) (u : Value) (m : Nat) (ys : List Value) (hx : a.eval x = u) (hsrc : w.ownsRow 0 e size u m ys) (h1 : ∀ y ∈ ys, y.oneCell' = true)
    (h63 : n + m ≤ maxLen) (hbytes : (n + m) * bytes ≤ 140737488355328) (hbase : base ≤ w.heap.size)
    (h : ∀ v' w', w'.ownsRow base e size v' (n + m) (xs ++ ys) → w.grownBy w' v.ownBlock → wpList P ops Q rest (a.put o.dst v') w') : wpList P ops Q (o :: rest) a w :=
  wpList_plain hgd fun _ hK => wp_append_row s x t ho base e i z size bytes ht hi hz hsize hby hzs hsz v n xs hs hown u m ys hx hsrc h1 h63 hbytes hbase fun v' w' p q => hK _ _ (h v' w' p q)
theorem step_append_row {ops : Array Oper} {o : Oper} {a : Act} {K : Act → World → Prop} {Q : Exit → Act → World → Prop} {E : Prop} (hgd : o.guard = none) (s x : Operand) (t : TypeId)
    (ho : o.op = .call { callee := .builtin .append, args := #[s, x], argTypes := #[t, t] })
    (base : Nat) (e : TypeId) (i : TypeInfo) (z : Value) (size bytes : Nat) (ht : P.underlying t = some (.slice e)) (hi : P.info? e = some i) (hz : i.zero = some z)
    (hsize : i.size = size) (hby : i.bytes = bytes) (hzs : z.cells.size = size) (hsz : 0 < size)
    (v : Value) (n : Nat) (xs : List Value) (hs : a.eval s = v) (hown : w.ownsRow base e size v n xs) (u : Value) (m : Nat) (ys : List Value) (hx : a.eval x = u) (hsrc : w.ownsRow 0 e size u m ys) (h1 : ∀ y ∈ ys, y.oneCell' = true)
    (h63 : n + m ≤ maxLen) (hbytes : (n + m) * bytes ≤ 140737488355328) (hbase : base ≤ w.heap.size)
    (h : ∀ v' w', w'.ownsRow base e size v' (n + m) (xs ++ ys) → w.grownBy w' v.ownBlock → K (a.put o.dst v') w') :
    if Region.wanted o (yielded ops a.tmps) = true then Oper.wp P o a w K Q else E := by
  have hw : Region.wanted o (yielded ops a.tmps) = true := by simp [Region.wanted, hgd]
  rw [if_pos hw]
  exact wp_append_row s x t ho base e i z size bytes ht hi hz hsize hby hzs hsz v n xs hs hown u m ys hx hsrc h1 h63 hbytes hbase h
end
end Go.Proofs.YtigkdehaepenhaaGreatDoor.B

namespace Go.Proofs.YtigkdehaepenhaaGreatDoor.B
open Go.RowKit

/-! ### cells, member by member -/
def cellsC {α : Type} (f : α → List Value) : List α → List Value
  | [] => []
  | x :: r => f x ++ cellsC f r
section
variable {α : Type} {f : α → List Value} {k : Nat}
theorem cellsC_len (hk : ∀ x, (f x).length = k) : ∀ l, (cellsC f l).length = l.length * k
  | [] => by simp [cellsC]
  | x :: r => by rw [cellsC, List.length_append, hk, cellsC_len hk r, List.length_cons, Nat.add_mul]; omega
theorem cellsC_app : ∀ a b, cellsC f (a ++ b) = cellsC f a ++ cellsC f b
  | [], b => rfl
  | x :: r, b => by rw [List.cons_append, cellsC, cellsC, cellsC_app r b, List.append_assoc]
theorem cellsC_one (x : α) : cellsC f [x] = f x := by rw [cellsC, cellsC, List.append_nil]
theorem cellsC_get (hk : ∀ x, (f x).length = k) : ∀ (l : List α) (i j : Nat) (x : α), l[i]? = some x → j < k → (cellsC f l)[i * k + j]? = (f x)[j]?
  | [], i, j, x, h, _ => by simp at h
  | y :: r, 0, j, x, h, hj => by
    obtain rfl : y = x := by simpa using h
    rw [cellsC, Nat.zero_mul, Nat.zero_add, List.getElem?_append_left (by rw [hk]; exact hj)]
  | y :: r, i + 1, j, x, h, hj => by
    have h' : r[i]? = some x := by simpa using h
    rw [cellsC, List.getElem?_append_right (by rw [hk, Nat.add_mul]; omega), hk, show (i + 1) * k + j - k = i * k + j by rw [Nat.add_mul]; omega]
    exact cellsC_get hk r i j x h' hj
theorem cellsC_inv (hk : ∀ x, (f x).length = k) : ∀ (l : List α) (n : Nat) (u : Value), (cellsC f l)[n]? = some u → ∃ i j x, l[i]? = some x ∧ n = i * k + j ∧ (f x)[j]? = some u
  | [], n, u, h => by simp [cellsC] at h
  | y :: r, n, u, h => by
    rw [cellsC] at h
    by_cases q : n < k
    · rw [List.getElem?_append_left (by rw [hk]; exact q)] at h
      exact ⟨0, n, y, rfl, by omega, h⟩
    · rw [List.getElem?_append_right (by rw [hk]; omega), hk] at h
      obtain ⟨i, j, x, h1, h2, h3⟩ := cellsC_inv hk r (n - k) u h
      exact ⟨i + 1, j, x, by simpa using h1, by rw [Nat.add_mul]; omega, h3⟩
theorem cellsC_mem {P : Value → Prop} : ∀ (l : List α), (∀ x ∈ l, ∀ u ∈ f x, P u) → ∀ u ∈ cellsC f l, P u
  | [], _, u, hu => by cases hu
  | x :: r, h, u, hu => by
    rcases List.mem_append.1 hu with hu | hu
    · exact h x List.mem_cons_self u hu
    · exact cellsC_mem r (fun y hy => h y (List.mem_cons_of_mem _ hy)) u hu

/-! ### a slice's members -/
/-- The slice at a holds these, k cells each. -/
def RowL (k : Nat) (f : α → List Value) (w : World) (a : Option Addr) (l : List α) : Prop := l = [] ∨ ∃ g o, a = some ⟨g, o, none⟩ ∧ g < w.heap.size ∧ ∀ (i : Nat) (x : α), l[i]? = some x → w.rangeAt g (o + i * k) (f x)
theorem RowL.nil (w : World) (a : Option Addr) : RowL k f w a [] := .inl rfl
theorem RowL.keep {w w' : World} {a : Option Addr} {l : List α} (h : RowL k f w a l) (hb : Below w.heap.size w w') : RowL k f w' a l := by
  rcases h with h | ⟨g, o, h1, h0, h2⟩
  · exact .inl h
  · exact .inr ⟨g, o, h1, Nat.lt_of_lt_of_le h0 hb.size, fun i x hx j v hj => (hb.cell (p := ⟨g, _, none⟩) h0).trans (h2 i x hx j v hj)⟩
theorem RowL.at_ {w : World} {a : Option Addr} {l : List α} (h : RowL k f w a l) {i : Nat} {x : α} (hx : l[i]? = some x) : ∃ g o, a = some ⟨g, o, none⟩ ∧ g < w.heap.size ∧ w.rangeAt g (o + i * k) (f x) := by
  rcases h with h | ⟨g, o, h1, h0, h2⟩
  · rw [h] at hx; simp at hx
  · exact ⟨g, o, h1, h0, h2 i x hx⟩
theorem RowL.drop {w : World} {a : Option Addr} {l : List α} (h : RowL k f w a l) (i : Nat) (hi : i < l.length) : ∃ g o, a = some ⟨g, o, none⟩ ∧ RowL k f w (some ⟨g, o + i * k, none⟩) (l.drop i) := by
  rcases h with h | ⟨g, o, h1, h0, h2⟩
  · rw [h] at hi; simp at hi
  · refine ⟨g, o, h1, .inr ⟨g, o + i * k, rfl, h0, fun j x hx => ?_⟩⟩
    rw [List.getElem?_drop] at hx
    have := h2 (i + j) x hx
    rw [Nat.add_mul, ← Nat.add_assoc] at this
    exact this
theorem RowL.tail {w : World} {a : Option Addr} {x : α} {l : List α} (h : RowL k f w a (x :: l)) : ∃ g o, a = some ⟨g, o, none⟩ ∧ g < w.heap.size ∧ w.rangeAt g o (f x) ∧ RowL k f w (some ⟨g, o + k, none⟩) l := by
  rcases h with h | ⟨g, o, h1, h0, h2⟩
  · cases h
  · refine ⟨g, o, h1, h0, ?_, .inr ⟨g, o + k, rfl, h0, fun i y hy => ?_⟩⟩
    · have := h2 0 x rfl
      rwa [Nat.zero_mul, Nat.add_zero] at this
    · have := h2 (i + 1) y (by simpa using hy)
      rwa [show o + (i + 1) * k = o + k + i * k by rw [Nat.add_mul]; omega] at this
theorem RowL.of_owns {w : World} {base : Nat} {e : TypeId} {v : Value} {l : List α} (hk : ∀ x, (f x).length = k) (h : w.ownsRow base e k v l.length (cellsC f l)) : ∃ a cap, v = .slice a l.length cap ∧ RowL k f w a l ∧ l.length ≤ cap ∧ cap ≤ maxLen ∧ (a = none → cap = 0) := by
  rcases h.2 with ⟨rfl, h0⟩ | ⟨g, cap, cur, rfl, hb, hg, hnc, hcm, hcs, ht⟩
  · exact ⟨none, 0, by rw [h0], .inl (List.eq_nil_of_length_eq_zero h0), by omega, by unfold maxLen; omega, fun _ => rfl⟩
  · refine ⟨_, cap, rfl, .inr ⟨g, 0, rfl, heap_lt hg, fun i x hx j v hj => ?_⟩, hnc, hcm, fun q => by cases q⟩
    have hjk : j < k := by rw [← hk x]; exact (List.getElem?_eq_some_iff.1 hj).1
    rw [Nat.zero_add]
    refine owns_cell (n := l.length) (cap := cap) h ?_
    rw [cellsC_get hk l i j x hx hjk]
    exact hj
/-- The cells behind a slice's address, one by one. -/
theorem RowL.cells {w : World} {g o : Nat} {l : List α} (hk : ∀ x, (f x).length = k) (h : RowL k f w (some ⟨g, o, none⟩) l) : ∀ j u, (cellsC f l)[j]? = some u → w.cell? ((⟨g, o, none⟩ : Addr).add j) = some u := by
  intro n u hu
  obtain ⟨i, j, x, h1, rfl, h3⟩ := cellsC_inv hk l n u hu
  obtain ⟨g', o', e, _, hr⟩ := h.at_ h1
  simp only [Option.some.injEq, Addr.mk.injEq] at e
  obtain ⟨rfl, rfl, _⟩ := e
  rw [Addr.add_mid, ← Nat.add_assoc]
  exact hr j u h3
end

/-! ### append, with all members of a slice behind -/
section
variable {P : Program} {w : World} {α : Type} {f : α → List Value} {k : Nat}
theorem wp_append_rowL {o : Oper} {a : Act} {K : Act → World → Prop} {Q : Exit → Act → World → Prop} (s x : Operand) (t : TypeId)
    (ho : o.op = .call { callee := .builtin .append, args := #[s, x], argTypes := #[t, t] })
    (base : Nat) (e : TypeId) (i : TypeInfo) (z : Value) (bytes : Nat) (ht : P.underlying t = some (.slice e)) (hi : P.info? e = some i) (hz : i.zero = some z)
    (hsize : i.size = k) (hby : i.bytes = bytes) (hzs : z.cells.size = k) (hsz : 0 < k) (hk : ∀ x, (f x).length = k) (h1 : ∀ x, ∀ u ∈ f x, u.oneCell' = true)
    (v : Value) (n : Nat) (xs : List Value) (hs : a.eval s = v) (hown : w.ownsRow base e k v n xs) (la : Option Addr) (lc : Nat) (l : List α) (hx : a.eval x = .slice la l.length lc) (hsrc : RowL k f w la l) (hnil : la = none → lc = 0)
    (h63 : n + l.length ≤ maxLen) (hbytes : (n + l.length) * bytes ≤ 140737488355328) (hbase : base ≤ w.heap.size)
    (h : ∀ ao cp w', w'.ownsRow base e k (.slice ao (n + l.length) cp) (n + l.length) (xs ++ cellsC f l) → w.grownBy w' v.ownBlock → K (a.put o.dst (.slice ao (n + l.length) cp)) w') : o.wp P a w K Q := by
  cases la with
  | none =>
    obtain rfl := hnil rfl
    obtain rfl : l = [] := by
      rcases hsrc with q | ⟨g, o, q, _⟩
      · exact q
      · cases q
    obtain ⟨ao, cp, rfl⟩ := owns_form hown
    have hrun := run_append_owned_none (P := P) (w := w) base t o.type e i k ht hi _ n xs hown
    unfold Oper.wp
    simp [execOp, ho, resolve, invoke, builtin, hs, hx, hrun, Result.andThen]
    exact h ao cp w (by simpa [cellsC] using hown) ⟨rfl, rfl, rfl, Nat.le_refl _, fun _ _ _ => rfl⟩
  | some ad =>
    have hcells : ∀ j u, (cellsC f l)[j]? = some u → w.cell? (ad.add j) = some u := by
      rcases hsrc with rfl | ⟨g, o', q, q2⟩
      · intro j u hu; simp [cellsC] at hu
      · obtain rfl := Option.some.inj q
        exact RowL.cells hk (.inr ⟨g, o', rfl, q2⟩)
    refine wp_append_own w s x t ho base e i z k bytes ht hi hz hsize hby hzs hsz v n xs hs hown ad l.length lc (cellsC f l) hx (cellsC_len hk l) hcells (cellsC_mem l fun x _ => h1 x) h63 hbytes hbase (fun v' w' p q _ => ?_)
    obtain ⟨ao, cp, rfl⟩ := owns_form p
    exact h ao cp w' p q
theorem wpList_append_rowL {ops : Array Oper} {rest : List Oper} {o : Oper} {a : Act} {Q : Exit → Act → World → Prop} (hgd : o.guard = none) (s x : Operand) (t : TypeId)
    (ho : o.op = .call { callee := .builtin .append, args := #[s, x], argTypes := #[t, t] })
    (base : Nat) (e : TypeId) (i : TypeInfo) (z : Value) (bytes : Nat) (ht : P.underlying t = some (.slice e)) (hi : P.info? e = some i) (hz : i.zero = some z)
    (hsize : i.size = k) (hby : i.bytes = bytes) (hzs : z.cells.size = k) (hsz : 0 < k) (hk : ∀ x, (f x).length = k) (h1 : ∀ x, ∀ u ∈ f x, u.oneCell' = true)
    (v : Value) (n : Nat) (xs : List Value) (hs : a.eval s = v) (hown : w.ownsRow base e k v n xs) (la : Option Addr) (lc : Nat) (l : List α) (hx : a.eval x = .slice la l.length lc) (hsrc : RowL k f w la l) (hnil : la = none → lc = 0)
    (h63 : n + l.length ≤ maxLen) (hbytes : (n + l.length) * bytes ≤ 140737488355328) (hbase : base ≤ w.heap.size)
    (h : ∀ ao cp w', w'.ownsRow base e k (.slice ao (n + l.length) cp) (n + l.length) (xs ++ cellsC f l) → w.grownBy w' v.ownBlock → wpList P ops Q rest (a.put o.dst (.slice ao (n + l.length) cp)) w') : wpList P ops Q (o :: rest) a w :=
  wpList_plain hgd fun _ hK => wp_append_rowL s x t ho base e i z bytes ht hi hz hsize hby hzs hsz hk h1 v n xs hs hown la lc l hx hsrc hnil h63 hbytes hbase fun ao cp w' p q => hK _ _ (h ao cp w' p q)
theorem step_append_rowL {ops : Array Oper} {o : Oper} {a : Act} {K : Act → World → Prop} {Q : Exit → Act → World → Prop} {E : Prop} (hgd : o.guard = none) (s x : Operand) (t : TypeId)
    (ho : o.op = .call { callee := .builtin .append, args := #[s, x], argTypes := #[t, t] })
    (base : Nat) (e : TypeId) (i : TypeInfo) (z : Value) (bytes : Nat) (ht : P.underlying t = some (.slice e)) (hi : P.info? e = some i) (hz : i.zero = some z)
    (hsize : i.size = k) (hby : i.bytes = bytes) (hzs : z.cells.size = k) (hsz : 0 < k) (hk : ∀ x, (f x).length = k) (h1 : ∀ x, ∀ u ∈ f x, u.oneCell' = true)
    (v : Value) (n : Nat) (xs : List Value) (hs : a.eval s = v) (hown : w.ownsRow base e k v n xs) (la : Option Addr) (lc : Nat) (l : List α) (hx : a.eval x = .slice la l.length lc) (hsrc : RowL k f w la l) (hnil : la = none → lc = 0)
    (h63 : n + l.length ≤ maxLen) (hbytes : (n + l.length) * bytes ≤ 140737488355328) (hbase : base ≤ w.heap.size)
    (h : ∀ ao cp w', w'.ownsRow base e k (.slice ao (n + l.length) cp) (n + l.length) (xs ++ cellsC f l) → w.grownBy w' v.ownBlock → K (a.put o.dst (.slice ao (n + l.length) cp)) w') :
    if Region.wanted o (yielded ops a.tmps) = true then Oper.wp P o a w K Q else E := by
  have hw : Region.wanted o (yielded ops a.tmps) = true := by simp [Region.wanted, hgd]
  rw [if_pos hw]
  exact wp_append_rowL s x t ho base e i z bytes ht hi hz hsize hby hzs hsz hk h1 v n xs hs hown la lc l hx hsrc hnil h63 hbytes hbase h
end

/-- A row read whole in a region that draws its order and only reads. -/
theorem quiet_row {P : Program} {C : World → Prop} {K : Act → Prop} {o : Oper} {a : Act} (ty : TypeId) (x : Operand) (ho : o.op = .load ty x) (b off : Nat) (hx : a.eval x = .pointer (some ⟨b, off, none⟩)) (cs : List Value) (d : TypeDesc) (hc : ∀ w, C w → w.rangeAt b off cs)
    (hu : P.underlying ty = some d) (hd : d.isRow = true) (hi : (P.info? ty).map (·.size) = some cs.length) (h : K (a.put o.dst (.agg cs.toArray))) : o.quiet P a C K :=
  ⟨_, fun w hw => by
    unfold Oper.quietAt execOp
    simp only [ho, hx, Instr.loadAt, Instr.sureAddr, Sem.run_bind, Sem.run_pure, Result.andThen_ok, run_loadVar_mid w b off ty cs d (hc w hw) hu hd hi]
    exact ⟨rfl, rfl⟩, h⟩

/-! ### texts -/
def txC (s : ByteArray) : List Value := [.string s]
theorem txC_len (s : ByteArray) : (txC s).length = 1 := rfl
theorem txC_one (s : ByteArray) : ∀ u ∈ txC s, u.oneCell' = true := fun u hu => by
  obtain rfl : u = .string s := by simpa [txC] using hu
  rfl
theorem txC_strs : ∀ l, cellsC txC l = strs l
  | [] => rfl
  | x :: r => by rw [cellsC, txC_strs r]; rfl
theorem strs_one (l : List ByteArray) : ∀ u ∈ strs l, u.oneCell' = true := fun u hu => by
  obtain ⟨s, _, rfl⟩ := List.mem_map.1 hu
  rfl
theorem strs_len (l : List ByteArray) : (strs l).length = l.length := List.length_map _
theorem strs_app (a b : List ByteArray) : strs (a ++ b) = strs a ++ strs b := List.map_append
/-- The slice at a holds these texts. -/
abbrev TxtL (w : World) (a : Option Addr) (l : List ByteArray) : Prop := RowL 1 txC w a l
theorem txt_at {w : World} {a : Option Addr} {l : List ByteArray} (h : TxtL w a l) {i : Nat} {s : ByteArray} (hs : l[i]? = some s) : ∃ g o, a = some ⟨g, o, none⟩ ∧ g < w.heap.size ∧ w.cell? ⟨g, o + i, none⟩ = some (.string s) := by
  obtain ⟨g, o, h1, h0, h2⟩ := h.at_ hs
  rw [Nat.mul_one] at h2
  exact ⟨g, o, h1, h0, h2 0 _ rfl⟩
theorem txt_owns {w : World} {base : Nat} {e : TypeId} {v : Value} {l : List ByteArray} (h : w.ownsRow base e 1 v l.length (strs l)) : ∃ a cap, v = .slice a l.length cap ∧ TxtL w a l ∧ l.length ≤ cap ∧ cap ≤ maxLen ∧ (a = none → cap = 0) := by
  rw [← txC_strs] at h
  exact RowL.of_owns txC_len h
theorem txt_cells {w : World} {g o : Nat} {l : List ByteArray} (h : TxtL w (some ⟨g, o, none⟩) l) : ∀ j u, (strs l)[j]? = some u → w.cell? ((⟨g, o, none⟩ : Addr).add j) = some u := by
  rw [← txC_strs]
  exact RowL.cells txC_len h
end Go.Proofs.YtigkdehaepenhaaGreatDoor.B

namespace Go.Proofs.YtigkdehaepenhaaGreatDoor.B
open Go.RowKit

theorem setCells_nil (w : World) (b o : Nat) : w.setCells b o [] = w := rfl
theorem setCells_cons (w : World) (b o : Nat) (v : Value) (r : List Value) : w.setCells b o (v :: r) = (w.setCell ⟨b, o, none⟩ v).setCells b (o + 1) r := rfl
theorem heap_setCells_ne (b : Nat) {i : Nat} (hne : i ≠ b) : ∀ (vs : List Value) (o : Nat) (w : World), (w.setCells b o vs).heap[i]? = w.heap[i]?
  | [], o, w => rfl
  | v :: r, o, w => by rw [setCells_cons, heap_setCells_ne b hne r, heap_setCell_other _ _ _ _ hne]
theorem below_cells {B : Nat} {w0 : World} (b : Nat) (hb : B ≤ b) : ∀ (vs : List Value) (o : Nat) (w : World), Below B w0 w → Below B w0 (w.setCells b o vs)
  | [], o, w, h => h
  | v :: r, o, w, h => by rw [setCells_cons]; exact below_cells b hb r (o + 1) _ (h.setCell (p := ⟨b, o, none⟩) hb v)
theorem size_setCells (b : Nat) : ∀ (vs : List Value) (o : Nat) (w : World), (w.setCells b o vs).heap.size = w.heap.size
  | [], o, w => rfl
  | v :: r, o, w => by rw [setCells_cons, size_setCells b r]; simp [World.setCell]
theorem owns_setCells {base : Nat} {e : TypeId} {size g n cap : Nat} : ∀ (vs : List Value) (o : Nat) (w : World) (xs : List Value), w.ownsRow base e size (.slice (some ⟨g, 0, none⟩) n cap) n xs → o + vs.length ≤ xs.length →
    (w.setCells g o vs).ownsRow base e size (.slice (some ⟨g, 0, none⟩) n cap) n (xs.take o ++ vs ++ xs.drop (o + vs.length))
  | [], o, w, xs, h, _ => by rw [setCells_nil, List.append_nil, List.length_nil, Nat.add_zero, List.take_append_drop]; exact h
  | v :: r, o, w, xs, h, hl => by
    rw [List.length_cons] at hl
    have h1 := owns_setCell h (j := o) (by omega) v
    have h2 := owns_setCells r (o + 1) _ _ h1 (by rw [List.length_set]; omega)
    rw [setCells_cons]
    have e : (xs.set o v).take (o + 1) ++ r ++ (xs.set o v).drop (o + 1 + r.length) = xs.take o ++ (v :: r) ++ xs.drop (o + (v :: r).length) := by
      rw [List.drop_set_of_lt (by omega), List.take_set, List.length_cons, show o + 1 + r.length = o + (r.length + 1) by omega]
      have : (xs.take (o + 1)).set o v = xs.take o ++ [v] := by
        rw [List.take_succ_eq_append_getElem (by omega), List.set_append_right _ _ (by rw [List.length_take]; omega), List.length_take, show o - min o xs.length = 0 by omega]
        rfl
      rw [this, List.append_assoc, List.append_assoc, List.append_assoc]
      rfl
    rwa [e] at h2
section
variable {α : Type} {f : α → List Value} {k : Nat}
theorem cellsC_splice (hk : ∀ x, (f x).length = k) (x : α) : ∀ (Z : List α) (i : Nat), i < Z.length → (cellsC f Z).take (i * k) ++ f x ++ (cellsC f Z).drop (i * k + k) = cellsC f (Z.set i x)
  | [], i, h => by simp at h
  | y :: r, 0, _ => by
    rw [Nat.zero_mul, Nat.zero_add, List.take_zero, List.nil_append, cellsC, List.drop_append_of_le_length (by rw [hk]; exact Nat.le_refl _), List.drop_of_length_le (by rw [hk]; exact Nat.le_refl _), List.nil_append, List.set_cons_zero, cellsC]
  | y :: r, i + 1, h => by
    have ih := cellsC_splice hk x r i (by simpa using h)
    rw [List.set_cons_succ, cellsC, cellsC, ← ih, show (i + 1) * k = k + i * k by rw [Nat.add_mul]; omega, List.take_append, hk, List.take_of_length_le (by rw [hk]; omega), Nat.add_sub_cancel_left, Nat.add_assoc, List.drop_append, hk, List.drop_of_length_le (by rw [hk]; omega), List.nil_append, Nat.add_sub_cancel_left]
    simp
theorem owns_put {w : World} {base : Nat} {e : TypeId} {g n cap : Nat} {Z : List α} (hk : ∀ x, (f x).length = k) (h : w.ownsRow base e k (.slice (some ⟨g, 0, none⟩) n cap) n (cellsC f Z)) {i : Nat} (hi : i < Z.length) (x : α) :
    (w.setCells g (i * k) (f x)).ownsRow base e k (.slice (some ⟨g, 0, none⟩) n cap) n (cellsC f (Z.set i x)) := by
  have hl : i * k + k ≤ (cellsC f Z).length := by
    rw [cellsC_len hk]
    have : (i + 1) * k ≤ Z.length * k := Nat.mul_le_mul_right _ (by omega)
    rw [Nat.add_mul] at this
    omega
  have h1 := owns_setCells (f x) (i * k) w _ h (by rw [hk]; exact hl)
  rw [hk, cellsC_splice hk x Z i hi] at h1
  exact h1
theorem owns_there {w : World} {base : Nat} {e : TypeId} {g n cap : Nat} {Z : List α} (hk : ∀ x, (f x).length = k) (h : w.ownsRow base e k (.slice (some ⟨g, 0, none⟩) n cap) n (cellsC f Z)) {i : Nat} (hi : i < Z.length) : w.there g (i * k) k := fun j hj => by
  refine ⟨?_, owns_frozen h _⟩
  have hl : i * k + j < (cellsC f Z).length := by
    rw [cellsC_len hk]
    have : (i + 1) * k ≤ Z.length * k := Nat.mul_le_mul_right _ (by omega)
    rw [Nat.add_mul] at this
    omega
  rw [owns_cell h (List.getElem?_eq_getElem hl)]
  rfl
/-- A row of as many zeros. -/
theorem made_cells {z : Array Value} (hz : z.size = k) (x : α) (hx : f x = z.toList) (h0 : 0 < k) : ∀ n : Nat, (madeCells z (n * k)).toList = cellsC f (List.replicate n x)
  | 0 => by rw [Nat.zero_mul]; simp [madeCells, cellsC]
  | n + 1 => by
    have ih := made_cells hz x hx h0 n
    rw [List.replicate_succ', cellsC_app, cellsC_one, ← ih, hx]
    unfold madeCells
    rw [Array.toList_map, Array.toList_map, Array.toList_range, Array.toList_range, show (n + 1) * k = n * k + k by rw [Nat.add_mul]; omega, List.range_add, List.map_append]
    congr 1
    rw [List.map_map]
    apply List.ext_getElem?
    intro j
    rw [List.getElem?_map]
    by_cases hj : j < k
    · rw [List.getElem?_range hj, Option.map_some, Array.getElem?_toList]
      show some (z[(n * k + j) % z.size]!) = _
      rw [hz, show (n * k + j) % k = j by rw [Nat.mul_comm, Nat.mul_add_mod, Nat.mod_eq_of_lt hj]]
      rw [getElem!_pos z j (by omega), Array.getElem?_eq_getElem (by omega)]
    · rw [List.getElem?_eq_none (by rw [List.length_range]; omega), Array.getElem?_toList, Array.getElem?_eq_none (by omega)]
      rfl
end
/-- The first i members set, zeros behind. -/
def setsL {α : Type} (l : List α) (z : α) (i : Nat) : List α := l.take i ++ List.replicate (l.length - i) z
theorem sets_len {α : Type} {l : List α} {z : α} {i : Nat} (h : i ≤ l.length) : (setsL l z i).length = l.length := by
  unfold setsL
  rw [List.length_append, List.length_take, List.length_replicate]
  omega
theorem sets_zero {α : Type} (l : List α) (z : α) : setsL l z 0 = List.replicate l.length z := by
  unfold setsL
  rw [List.take_zero, List.nil_append, Nat.sub_zero]
theorem sets_all {α : Type} (l : List α) (z : α) : setsL l z l.length = l := by
  unfold setsL
  rw [List.take_length, Nat.sub_self]
  exact List.append_nil _
theorem sets_step {α : Type} {l : List α} {z : α} {i : Nat} {x : α} (h : l[i]? = some x) : (setsL l z i).set i x = setsL l z (i + 1) := by
  obtain ⟨hi, hx⟩ := List.getElem?_eq_some_iff.1 h
  unfold setsL
  obtain ⟨k, hk⟩ : ∃ k, l.length = i + 1 + k := ⟨l.length - (i + 1), by omega⟩
  rw [hk, show i + 1 + k - i = k + 1 by omega, show i + 1 + k - (i + 1) = k by omega, List.replicate_succ, List.set_append_right _ _ (by rw [List.length_take]; omega), List.length_take, show i - min i l.length = 0 by omega, List.set_cons_zero, List.take_succ_eq_append_getElem hi, hx, List.append_assoc]
  rfl
/-- A store of several cells, at a step of a region that draws its order. -/
theorem step_store_mid {P : Program} {ops : Array Oper} {o : Oper} {a : Act} {w : World} {K : Act → World → Prop} {Q : Exit → Act → World → Prop} {E : Prop} (hgd : o.guard = none) (ty : TypeId) (x y : Operand) (ho : o.op = .store ty x y)
    (b off : Nat) (cells : Array Value) (hx : a.eval x = .pointer (some ⟨b, off, none⟩)) (hy : a.eval y = .agg cells)
    (ht : w.there b off cells.size) (hi : (P.info? ty).map (·.size) = some cells.size) (h1 : cells.all (·.oneCell') = true)
    (h : K (a.put o.dst undef) (w.setCells b off cells.toList)) : if Region.wanted o (yielded ops a.tmps) = true then Oper.wp P o a w K Q else E := by
  have hw : Region.wanted o (yielded ops a.tmps) = true := by simp [Region.wanted, hgd]
  rw [if_pos hw]
  exact wp_store_mid ty x y ho b off cells hx hy ht hi h1 h
/-- A whole row stored, at a step of a region that draws its order. -/
theorem step_store_own {P : Program} {ops : Array Oper} {o : Oper} {a : Act} {w : World} {K : Act → World → Prop} {Q : Exit → Act → World → Prop} {E : Prop} (hgd : o.guard = none) (ty : TypeId) (x y : Operand) (ho : o.op = .store ty x y)
    (g : Nat) (cells : Array Value) (hx : a.eval x = .pointer (some ⟨g, 0, none⟩)) (hy : a.eval y = .agg cells)
    (t : TypeId) (old : Array Value) (hg : w.heap[g]? = some (.cells old t (0, 0))) (hi : (P.info? ty).map (·.size) = some cells.size)
    (hold : old.size = cells.size) (h1 : cells.all (·.oneCell') = true) (h : K (a.put o.dst undef) (w.setRow g cells)) :
    if Region.wanted o (yielded ops a.tmps) = true then Oper.wp P o a w K Q else E := by
  have hw : Region.wanted o (yielded ops a.tmps) = true := by simp [Region.wanted, hgd]
  rw [if_pos hw]
  exact wp_store_row ty x y ho g cells hx hy t old hg hi hold h1 h
theorem below_setR {B g : Nat} {a w : World} (h : Below B a w) (hg : B ≤ g) (cs : Array Value) : Below B a (w.setRow g cs) :=
  ⟨h.os, h.tape, h.output, by have := h.size; simp [World.setRow]; omega, fun k hk => by rw [setRow_other _ _ _ _ (by omega)]; exact h.block k hk⟩
theorem owns_low {w : World} {b c : Nat} {e : TypeId} {size n : Nat} {v : Value} {xs : List Value} (h : w.ownsRow b e size v n xs) (hc : c ≤ b) : w.ownsRow c e size v n xs := by
  refine ⟨h.1, ?_⟩
  rcases h.2 with q | ⟨g, cap, cur, q1, q2, q3⟩
  · exact .inl q
  · exact .inr ⟨g, cap, cur, q1, Nat.le_trans hc q2, q3⟩
theorem three_new (w : World) (a b c : Obj) : ((((w.alloc a).alloc b).alloc c).heap[w.heap.size]? = some a) ∧ ((((w.alloc a).alloc b).alloc c).heap[w.heap.size + 1]? = some b) ∧ ((((w.alloc a).alloc b).alloc c).heap[w.heap.size + 1 + 1]? = some c) := by
  have s1 : (w.alloc a).heap.size = w.heap.size + 1 := by simp
  have s2 : ((w.alloc a).alloc b).heap.size = w.heap.size + 1 + 1 := by simp
  refine ⟨?_, ?_, ?_⟩
  · rw [heap_alloc_old _ _ (by omega), heap_alloc_old _ _ (by omega)]
    exact heap_alloc_new _ _
  · rw [heap_alloc_old _ _ (by omega), ← s1]
    exact heap_alloc_new _ _
  · rw [← s2]
    exact heap_alloc_new _ _
theorem two_new (w : World) (a b : Obj) : ((w.alloc a).alloc b).heap[w.heap.size]? = some a ∧ ((w.alloc a).alloc b).heap[w.heap.size + 1]? = some b := by
  have s1 : (w.alloc a).heap.size = w.heap.size + 1 := by simp
  refine ⟨?_, ?_⟩
  · rw [heap_alloc_old _ _ (by omega)]
    exact heap_alloc_new _ _
  · rw [← s1]
    exact heap_alloc_new _ _
/-- A row of another type. -/
theorem ne_type {w : World} {b : Nat} {e t : TypeId} {s n k : Nat} {v : Value} {xs : List Value} {cur : Array Value} {fr : Nat × Nat} (ho : w.ownsRow b e s v n xs) (hx : w.heap[k]? = some (.cells cur t fr)) (h : t ≠ e) : some k ≠ v.ownBlock := fun q => by
  obtain ⟨c, hc⟩ := owns_type ho q.symm
  rw [hx] at hc
  simp only [Option.some.injEq, Obj.cells.injEq] at hc
  exact h hc.2.1
end Go.Proofs.YtigkdehaepenhaaGreatDoor.B

namespace Go.Proofs.YtigkdehaepenhaaGreatDoor.J
open Go.Proofs.YtigkdehaepenhaaGreatDoor.B
open Go.RowKit

theorem range_of {w : World} {b : Nat} {cs : List Value} {t : TypeId} {fr : Nat × Nat} (h : w.heap[b]? = some (.cells cs.toArray t fr)) : w.rangeAt b 0 cs := fun j v hv => by
  rw [cell_of_row _ _ _ _ _ _ h, Nat.zero_add]
  simpa using hv
/-- A part of a row. -/
theorem range_mid {w : World} {b : Nat} {xs cs ys : List Value} {t : TypeId} {fr : Nat × Nat} (h : w.heap[b]? = some (.cells (xs ++ cs ++ ys).toArray t fr)) : w.rangeAt b xs.length cs := fun j v hv => by
  have hj := (List.getElem?_eq_some_iff.1 hv).1
  rw [cell_of_row _ _ _ _ _ _ h]
  show (xs ++ cs ++ ys).toArray[xs.length + j]? = some v
  rw [List.getElem?_toArray, List.getElem?_append_left (by rw [List.length_append]; omega), List.getElem?_append_right (by omega), Nat.add_sub_cancel_left]
  exact hv

theorem below_a2 (w : World) (a b : Obj) : Below w.heap.size w ((w.alloc a).alloc b) := by
  have h1 := (Below.refl w.heap.size w).alloc (Nat.le_refl _) a
  exact h1.alloc h1.size b
theorem below_a3 (w : World) (a b c : Obj) : Below w.heap.size w (((w.alloc a).alloc b).alloc c) := (below_a2 w a b).alloc (below_a2 w a b).size c
theorem owns_apart {w : World} {b1 b2 : Nat} {e1 e2 : TypeId} {s1 s2 n1 n2 : Nat} {v1 v2 : Value} {x1 x2 : List Value} (h1 : w.ownsRow b1 e1 s1 v1 n1 x1) (h2 : w.ownsRow b2 e2 s2 v2 n2 x2) (hne : e1 ≠ e2) : v1.ownBlock = none ∨ v1.ownBlock ≠ v2.ownBlock := by
  cases hk : v1.ownBlock with
  | none => exact .inl rfl
  | some k =>
    refine .inr fun e => ?_
    obtain ⟨c1, h1⟩ := owns_type h1 hk
    obtain ⟨c2, h2⟩ := owns_type h2 e.symm
    rw [h1] at h2
    simp only [Option.some.injEq, Obj.cells.injEq] at h2
    exact hne h2.2.1
end Go.Proofs.YtigkdehaepenhaaGreatDoor.J

namespace Go.Proofs.YtigkdehaepenhaaGreatDoor.S
open Go.Lib

/-- A format written: 'one' says what a directive writes, or that it is none. -/
def fmtL (one : UInt8 → Option (List UInt8)) : List UInt8 → List UInt8
  | [] => []
  | [c] => [c]
  | c :: e :: r => if c = 37 then (match one e with | some s => s ++ fmtL one r | none => c :: fmtL one (e :: r)) else c :: fmtL one (e :: r)
theorem fmtL_nil (one : UInt8 → Option (List UInt8)) : fmtL one [] = [] := by rw [fmtL]
theorem fmtL_last (one : UInt8 → Option (List UInt8)) (c : UInt8) : fmtL one [c] = [c] := by rw [fmtL]
theorem fmtL_plain (one : UInt8 → Option (List UInt8)) {c : UInt8} (r : List UInt8) (h : c ≠ 37) : fmtL one (c :: r) = c :: fmtL one r := by
  cases r with
  | nil => rw [fmtL_last, fmtL_nil]
  | cons e r => rw [fmtL, if_neg h]
theorem fmtL_told (one : UInt8 → Option (List UInt8)) {e : UInt8} {s : List UInt8} (r : List UInt8) (h : one e = some s) : fmtL one (37 :: e :: r) = s ++ fmtL one r := by
  rw [fmtL, if_pos rfl, h]
theorem fmtL_none (one : UInt8 → Option (List UInt8)) {e : UInt8} (r : List UInt8) (h : one e = none) : fmtL one (37 :: e :: r) = 37 :: fmtL one (e :: r) := by
  rw [fmtL, if_pos rfl, h]
/-- Two formats, the first of which doesn't end with a %, are written one behind the other. -/
theorem fmtL_append (one : UInt8 → Option (List UInt8)) (g : List UInt8) : ∀ (k : Nat) (f : List UInt8), f.length ≤ k → f.getLast? ≠ some 37 → fmtL one (f ++ g) = fmtL one f ++ fmtL one g
  | _, [], _, _ => by rw [fmtL_nil]; rfl
  | 0, _ :: _, h, _ => by simp at h
  | k + 1, c :: r, h, hl => by
    have hk : r.length ≤ k := by simpa using h
    by_cases hc : c = 37
    · subst hc
      cases r with
      | nil => exact absurd rfl hl
      | cons e r =>
        have hl2 : (e :: r).getLast? ≠ some 37 := by simpa using hl
        rw [List.cons_append, List.cons_append]
        cases ho : one e with
        | none =>
          rw [fmtL_none one _ ho, fmtL_none one _ ho, ← List.cons_append, fmtL_append one g k (e :: r) hk hl2, List.cons_append]
        | some s =>
          rw [fmtL_told one _ ho, fmtL_told one _ ho, fmtL_append one g k r (by simp at hk; omega) ?_, List.append_assoc]
          cases r with
          | nil => simp
          | cons x r => simpa using hl2
    · rw [List.cons_append, fmtL_plain one _ hc, fmtL_plain one _ hc, List.cons_append]
      rw [fmtL_append one g k r hk ?_]
      cases r with
      | nil => simp
      | cons x r => simpa using hl
/-- How long it gets. -/
theorem fmtL_length (one : UInt8 → Option (List UInt8)) (m : Nat) (hm : ∀ e s, one e = some s → s.length ≤ m) (h1 : 1 ≤ m) : ∀ (k : Nat) (f : List UInt8), f.length ≤ k → (fmtL one f).length ≤ m * f.length
  | _, [], _ => by rw [fmtL_nil]; simp
  | 0, _ :: _, h => by simp at h
  | k + 1, c :: r, h => by
    have hk : r.length ≤ k := by simpa using h
    have hr := fmtL_length one m hm h1 k r hk
    have e1 : m * (c :: r).length = m * r.length + m := by rw [List.length_cons, Nat.mul_succ]
    by_cases hc : c = 37
    · subst hc
      cases r with
      | nil => rw [fmtL_last]; simpa using h1
      | cons e r =>
        cases ho : one e with
        | none =>
          rw [fmtL_none one _ ho, e1, List.length_cons]
          omega
        | some s =>
          have hs := hm e s ho
          have hr2 := fmtL_length one m hm h1 k r (by simp at hk; omega)
          have e2 : m * (e :: r).length = m * r.length + m := by rw [List.length_cons, Nat.mul_succ]
          rw [fmtL_told one _ ho, e1, List.length_append]
          omega
    · rw [fmtL_plain one _ hc, e1, List.length_cons]
      omega

/-- A number below 100 in two digits, one below 1000 in three. -/
def twoL (n : Nat) : List UInt8 := [UInt8.ofNat (48 + n / 10 % 10), UInt8.ofNat (48 + n % 10)]
def threeL (n : Nat) : List UInt8 := UInt8.ofNat (48 + n / 100) :: twoL (n % 100)
theorem itoa_two : ∀ n : Fin 100, itoa (n.val : Int) = if n.val < 10 then [UInt8.ofNat (48 + n.val)] else twoL n.val := by decide +kernel
theorem itoa_three : ∀ n : Fin 1000, itoa (n.val : Int) = if n.val < 10 then [UInt8.ofNat (48 + n.val)] else if n.val < 100 then twoL n.val else threeL n.val := by decide +kernel
theorem two_small (n : Nat) (h : n < 10) : twoL n = 48 :: [UInt8.ofNat (48 + n)] := by
  unfold twoL
  rw [show n / 10 % 10 = 0 by omega, show n % 10 = n by omega]
  rfl
theorem three_small (n : Nat) (h : n < 100) : threeL n = 48 :: twoL n := by
  unfold threeL
  rw [show n / 100 = 0 by omega, show n % 100 = n by omega]
  rfl
end Go.Proofs.YtigkdehaepenhaaGreatDoor.S

namespace Go.Proofs.YtigkdehaepenhaaGreatDoor.J
open Go.Proofs.YtigkdehaepenhaaGreatDoor.B

abbrev By := List UInt8
def dirW : By := [100, 105, 114, 101, 99, 116, 111, 114, 121]
def lnkW : By := [115, 121, 109, 98, 111, 108, 105, 99, 32, 108, 105, 110, 107]
def emptyW : By := [114, 101, 103, 117, 108, 97, 114, 32, 101, 109, 112, 116, 121, 32, 102, 105, 108, 101]
def fileW : By := [114, 101, 103, 117, 108, 97, 114, 32, 102, 105, 108, 101]
/-- What a node is, in words. -/
def whatL (n : P.Nv) : By := if n.kind = 2 then dirW else if n.kind = 3 then lnkW else if n.size = 0 then emptyW else fileW
def octL (m : Int) : By := N.digB (8 : Int).toNat m.toNat
/-- What a directive tells. -/
def oneJ (n : P.Nv) (nm qt : By) (c : UInt8) : Option By :=
  if c = 110 then some nm
  else if c = 78 then some qt
  else if c = 115 then some (Lib.itoa n.size)
  else if c = 98 then some (Lib.itoa n.blocks)
  else if c = 97 then some (octL n.mode)
  else if c = 65 then some (P.textP n.kind n.mode)
  else if c = 117 then some (Lib.itoa n.uid)
  else if c = 103 then some (Lib.itoa n.gid)
  else if c = 105 then some (Lib.itoa n.ino)
  else if c = 100 then some (Lib.itoa n.dev)
  else if c = 104 then some (Lib.itoa n.links)
  else if c = 70 then some (whatL n)
  else if c = 88 then some (Lib.itoa n.ta)
  else if c = 89 then some (Lib.itoa n.tb)
  else if c = 90 then some (Lib.itoa n.tc)
  else if c = 37 then some [37]
  else none
def txt (l : By) : ByteArray := ⟨l.toArray⟩
theorem txt_size (l : By) : (txt l).size = l.length := by show l.toArray.size = _; simp
theorem txt_append (a b : By) : txt a ++ txt b = txt (a ++ b) := by
  unfold txt
  rw [ByteArray.mk_append_mk]
theorem txt_list (l : By) : (txt l).data.toList = l := by simp [txt]
theorem txt_of (s : ByteArray) : txt s.data.toList = s := by cases s; rfl
theorem itoa_len {n : Int} (h : I64 n) : (Lib.itoa n).length ≤ 21 := Lib.itoa_length_le n h.1 h.2
theorem what_len (n : P.Nv) : (whatL n).length ≤ 18 := by
  unfold whatL
  repeat' split
  all_goals decide
theorem textP_len (k m : Int) : (P.textP k m).length ≤ 10 := by
  unfold P.textP P.kindL P.clsL
  repeat' split
  all_goals simp
theorem oct_len {m : Int} (h0 : 0 ≤ m) (h1 : m < 4096) : (octL m).length ≤ 64 := N.digB_size 8 m (by decide) (by omega)
theorem oneJ_len {n : P.Nv} (h : NumJ n) {nm qt : By} {K : Nat} (h1 : nm.length ≤ K) (h2 : qt.length ≤ K) (h3 : 64 ≤ K) (c : UInt8) (s : By) (hs : oneJ n nm qt c = some s) : s.length ≤ K := by
  unfold oneJ at hs
  have a1 := itoa_len h.size
  have a2 := itoa_len h.blk
  have a3 := itoa_len h.uid
  have a4 := itoa_len h.gid
  have a5 := itoa_len h.ino
  have a6 := itoa_len h.dev
  have a7 := itoa_len h.lnk
  have a8 := itoa_len h.ta
  have a9 := itoa_len h.tb
  have b1 := itoa_len h.tc
  have b2 := what_len n
  have b3 := textP_len n.kind n.mode
  have b4 := oct_len h.m0 h.m1
  by_cases e110 : c = 110
  · rw [if_pos e110] at hs
    obtain rfl := Option.some.inj hs
    omega
  rw [if_neg e110] at hs
  by_cases e78 : c = 78
  · rw [if_pos e78] at hs
    obtain rfl := Option.some.inj hs
    omega
  rw [if_neg e78] at hs
  by_cases e115 : c = 115
  · rw [if_pos e115] at hs
    obtain rfl := Option.some.inj hs
    omega
  rw [if_neg e115] at hs
  by_cases e98 : c = 98
  · rw [if_pos e98] at hs
    obtain rfl := Option.some.inj hs
    omega
  rw [if_neg e98] at hs
  by_cases e97 : c = 97
  · rw [if_pos e97] at hs
    obtain rfl := Option.some.inj hs
    omega
  rw [if_neg e97] at hs
  by_cases e65 : c = 65
  · rw [if_pos e65] at hs
    obtain rfl := Option.some.inj hs
    omega
  rw [if_neg e65] at hs
  by_cases e117 : c = 117
  · rw [if_pos e117] at hs
    obtain rfl := Option.some.inj hs
    omega
  rw [if_neg e117] at hs
  by_cases e103 : c = 103
  · rw [if_pos e103] at hs
    obtain rfl := Option.some.inj hs
    omega
  rw [if_neg e103] at hs
  by_cases e105 : c = 105
  · rw [if_pos e105] at hs
    obtain rfl := Option.some.inj hs
    omega
  rw [if_neg e105] at hs
  by_cases e100 : c = 100
  · rw [if_pos e100] at hs
    obtain rfl := Option.some.inj hs
    omega
  rw [if_neg e100] at hs
  by_cases e104 : c = 104
  · rw [if_pos e104] at hs
    obtain rfl := Option.some.inj hs
    omega
  rw [if_neg e104] at hs
  by_cases e70 : c = 70
  · rw [if_pos e70] at hs
    obtain rfl := Option.some.inj hs
    omega
  rw [if_neg e70] at hs
  by_cases e88 : c = 88
  · rw [if_pos e88] at hs
    obtain rfl := Option.some.inj hs
    omega
  rw [if_neg e88] at hs
  by_cases e89 : c = 89
  · rw [if_pos e89] at hs
    obtain rfl := Option.some.inj hs
    omega
  rw [if_neg e89] at hs
  by_cases e90 : c = 90
  · rw [if_pos e90] at hs
    obtain rfl := Option.some.inj hs
    omega
  rw [if_neg e90] at hs
  by_cases e37 : c = 37
  · rw [if_pos e37] at hs
    obtain rfl := Option.some.inj hs
    show 1 ≤ K; omega
  rw [if_neg e37] at hs
  cases hs
def arrow : ByteArray := ⟨#[32, 45, 62, 32]⟩
/-- A node's name in quotes, and a link's text. -/
def quotB (qf : ByteArray → ByteArray) (k : Int) (s t : ByteArray) : ByteArray := if k = 3 then qf s ++ (arrow ++ qf t) else qf s
/-- What a format tells. -/
def fmtJ (n : P.Nv) (nm qt : By) (l : By) : By := S.fmtL (oneJ n nm qt) l
theorem oneJ_pct (n : P.Nv) (nm qt : By) : oneJ n nm qt 37 = some [37] := rfl
theorem fmtJ_pair (n : P.Nv) (nm qt : By) (e : UInt8) (r : By) : fmtJ n nm qt (37 :: e :: r) = (oneJ n nm qt e).getD [37, e] ++ fmtJ n nm qt r := by
  unfold fmtJ
  cases h : oneJ n nm qt e with
  | some s => rw [S.fmtL_told _ _ h]; rfl
  | none =>
    rw [S.fmtL_none _ _ h, S.fmtL_plain]
    · rfl
    · intro hc
      subst hc
      rw [oneJ_pct] at h
      cases h
theorem fmtJ_len {n : P.Nv} (h : NumJ n) {nm qt : By} {K : Nat} (h1 : nm.length ≤ K) (h2 : qt.length ≤ K) (h3 : 64 ≤ K) (l : By) : (fmtJ n nm qt l).length ≤ K * l.length :=
  S.fmtL_length _ K (fun c s hs => oneJ_len h h1 h2 h3 c s hs) (by omega) l.length l (Nat.le_refl _)
/-- Bytes without a % stay as they are. -/
theorem fmtJ_plain (n : P.Nv) (nm qt : By) : ∀ (a r : By), (∀ c ∈ a, c ≠ 37) → fmtJ n nm qt (a ++ r) = a ++ fmtJ n nm qt r
  | [], r, _ => rfl
  | c :: a, r, h => by
    have ih := fmtJ_plain n nm qt a r fun x hx => h x (List.mem_cons_of_mem _ hx)
    unfold fmtJ at ih ⊢
    rw [List.cons_append, S.fmtL_plain _ _ (h c List.mem_cons_self), ih]
    rfl
theorem fmtJ_none (n : P.Nv) (nm qt : By) (a : By) (h : ∀ c ∈ a, c ≠ 37) : fmtJ n nm qt a = a := by
  have := fmtJ_plain n nm qt a [] h
  rw [List.append_nil] at this
  rw [this]
  show a ++ S.fmtL _ [] = a
  rw [S.fmtL_nil, List.append_nil]
/-- A % alone at the end stays as it is. -/
theorem fmtJ_end (n : P.Nv) (nm qt : By) (a : By) (h : ∀ c ∈ a, c ≠ 37) : fmtJ n nm qt (a ++ [37]) = a ++ [37] := by
  rw [fmtJ_plain n nm qt a _ h]
  show a ++ S.fmtL _ [37] = _
  rw [S.fmtL_last]
theorem fmtJ_no {n : P.Nv} {nm qt l : By} (h : Lib.indexByte l 37 = -1) : fmtJ n nm qt l = l := fmtJ_none n nm qt l fun c hc e => by
  obtain ⟨k, hk⟩ := List.mem_iff_getElem?.1 hc
  exact Lib.indexByte_none h k (by rw [hk, e])
theorem at_split {l : By} {i : Nat} (h : Lib.indexByte l 37 = (i : Int)) : i < l.length ∧ (∀ c ∈ l.take i, c ≠ 37) ∧ l.drop i = 37 :: l.drop (i + 1) := by
  obtain ⟨h1, h2⟩ := Lib.indexByte_some h
  obtain ⟨hi, he⟩ := List.getElem?_eq_some_iff.1 h1
  refine ⟨hi, fun c hc e => ?_, by rw [List.drop_eq_getElem_cons hi, he]⟩
  obtain ⟨k, hk⟩ := List.mem_iff_getElem?.1 hc
  rw [List.getElem?_take] at hk
  split at hk
  · exact h2 k (by assumption) (by rw [hk, e])
  · cases hk
theorem fmtJ_last {n : P.Nv} {nm qt l : By} {i : Nat} (h : Lib.indexByte l 37 = (i : Int)) (hl : i + 1 = l.length) : fmtJ n nm qt l = l := by
  obtain ⟨_, h2, h3⟩ := at_split h
  have e : l = l.take i ++ [37] := by
    conv => lhs; rw [← List.take_append_drop i l, h3]
    rw [List.drop_of_length_le (by omega)]
  rw [e]
  exact fmtJ_end n nm qt _ h2
theorem fmtJ_step {n : P.Nv} {nm qt l : By} {i : Nat} {c : UInt8} (h : Lib.indexByte l 37 = (i : Int)) (hc : l[i + 1]? = some c) : fmtJ n nm qt l = l.take i ++ ((oneJ n nm qt c).getD [37, c] ++ fmtJ n nm qt (l.drop (i + 2))) := by
  obtain ⟨_, h2, h3⟩ := at_split h
  obtain ⟨hi, he⟩ := List.getElem?_eq_some_iff.1 hc
  have e : l.drop (i + 1) = c :: l.drop (i + 2) := by rw [List.drop_eq_getElem_cons hi, he]
  conv => lhs; rw [← List.take_append_drop i l, h3, e]
  rw [fmtJ_plain n nm qt _ _ h2, fmtJ_pair]
/-- Two formats, the first of which doesn't end with a %, are told one behind the other. -/
theorem fmtJ_append (n : P.Nv) (nm qt : By) (f g : By) (h : f.getLast? ≠ some 37) : fmtJ n nm qt (f ++ g) = fmtJ n nm qt f ++ fmtJ n nm qt g := S.fmtL_append _ g f.length f (Nat.le_refl _) h
end Go.Proofs.YtigkdehaepenhaaGreatDoor.J

namespace Go.Proofs.YtigkdehaepenhaaGreatDoor.J
open Go.Proofs.YtigkdehaepenhaaGreatDoor.B
open Go.RowKit

/-- What quote.Quote returns in the style in which a directive writes names: a text's qf. -/
structure QJ (qf : ByteArray → ByteArray) (w : World) : Prop where
  quote : ∀ (s : ByteArray) (X : World), s.size ≤ 60000 → Below w.heap.size w X → Calls Tryz.prog 108 #[.int .i64 1, .string s] X fun e w' => e = .returned (.string (qf s)) ∧ Below X.heap.size X w'
  size : ∀ s : ByteArray, s.size ≤ 60000 → (qf s).size ≤ 7 * s.size + 2
theorem QJ.keep {qf : ByteArray → ByteArray} {w w' : World} (H : QJ qf w) (hb : Below w.heap.size w w') : QJ qf w' := ⟨fun s X hs hX => H.quote s X hs (hb.trans (hX.mono hb.size)), H.size⟩
/-- The tables that directives want. -/
structure FTab (w : World) : Prop where
  p : P.Tab w
  n : N.Tab w
  z : N.TzTab w
theorem FTab.keep {w w' : World} (h : FTab w) (hb : Below w.heap.size w w') : FTab w' := ⟨h.p.keep hb, h.n.keep hb, h.z.keep hb⟩
theorem sizeSub : (Tryz.prog.info? 67).map (·.size) = some 15 := by kernel_rfl
theorem sizeNd : (Tryz.prog.info? 62).map (·.size) = some 13 := by kernel_rfl
def ndC (n : P.Nv) : List Value := [.int .i64 n.dev, .int .i64 n.ino, .int .i64 n.kind, .int .i64 n.mode, .int .i64 n.uid, .int .i64 n.gid, .int .i64 n.size, .int .i64 n.blocks, .int .i64 n.links, .int .i64 n.ta, .int .i64 n.tb, .int .i64 n.tc, .string n.target]
theorem ndC_one (n : P.Nv) : (ndC n).toArray.all (·.oneCell') = true := by simp [ndC, Value.oneCell']
def subC (n : P.Nv) (nm lt : ByteArray) : Array Value := #[.int .i64 n.dev, .int .i64 n.ino, .int .i64 n.kind, .int .i64 n.mode, .int .i64 n.uid, .int .i64 n.gid, .int .i64 n.size, .int .i64 n.blocks, .int .i64 n.links, .int .i64 n.ta, .int .i64 n.tb, .int .i64 n.tc, .string n.target, .string nm, .string lt]
def subV (n : P.Nv) (nm lt : ByteArray) : Value := .agg (subC n nm lt)

set_option maxRecDepth 100000 in
set_option maxHeartbeats 2000000 in
theorem what_any (n : P.Nv) (w : World) :
    Calls Tryz.prog 85 #[P.nodeV n] w fun e w' => e = .returned (.string (txt (whatL n))) ∧ Below w.heap.size w w' := by
  have HBa := Lib.hid (show ∀ o, Below w.heap.size w (w.alloc o) from fun o => (Below.refl _ _).alloc (Nat.le_refl _) _)
  have HW := Lib.hid (show txt (whatL n) = if n.kind = 2 then txt dirW else if n.kind = 3 then txt lnkW else if n.size = 0 then txt emptyW else txt fileW from by unfold whatL; by_cases h2 : n.kind = 2 <;> by_cases h3 : n.kind = 3 <;> by_cases h0 : n.size = 0 <;> simp [h2, h3, h0])
  generalize txt (whatL n) = R at HW ⊢
  unfold txt dirW lnkW emptyW fileW at HW
  unfold P.nodeV
  by_cases h2 : n.kind = 2
  · have hR := HW.out
    rw [if_pos h2] at hR
    subst hR
    have d2 : (n.kind == 2) = true := beq_iff_eq.2 h2
    clear h2 HW
    go_enter Tryz.func85, Tryz.ntmps85
    go_wp2_with fail
    go_ret
    exact ⟨rfl, HBa.out _⟩
  · have d2 : (n.kind == 2) = false := beq_eq_false_iff_ne.2 h2
    by_cases h3 : n.kind = 3
    · have hR := HW.out
      rw [if_neg h2, if_pos h3] at hR
      subst hR
      have d3 : (n.kind == 3) = true := beq_iff_eq.2 h3
      clear h2 h3 HW
      go_enter Tryz.func85, Tryz.ntmps85
      go_wp2_with fail
      go_ret
      exact ⟨rfl, HBa.out _⟩
    · have d3 : (n.kind == 3) = false := beq_eq_false_iff_ne.2 h3
      by_cases h0 : n.size = 0
      · have hR := HW.out
        rw [if_neg h2, if_neg h3, if_pos h0] at hR
        subst hR
        have d0 : (n.size == 0) = true := beq_iff_eq.2 h0
        clear h2 h3 h0 HW
        go_enter Tryz.func85, Tryz.ntmps85
        go_wp2_with fail
        go_ret
        exact ⟨rfl, HBa.out _⟩
      · have hR := HW.out
        rw [if_neg h2, if_neg h3, if_neg h0] at hR
        subst hR
        have d0 : (n.size == 0) = false := beq_eq_false_iff_ne.2 h0
        clear h2 h3 h0 HW
        go_enter Tryz.func85, Tryz.ntmps85
        go_wp2_with fail
        go_ret
        exact ⟨rfl, HBa.out _⟩

set_option maxRecDepth 100000 in
set_option maxHeartbeats 2000000 in
theorem quoted_any (n : P.Nv) (nm lt : ByteArray) (qf : ByteArray → ByteArray) (w : World) (hq : QJ qf w) (hn : nm.size ≤ 60000) (hl : lt.size ≤ 60000) :
    Calls Tryz.prog 81 #[subV n nm lt] w fun e w' => e = .returned (.string (quotB qf n.kind nm lt)) ∧ Below w.heap.size w w' := by
  have HQ := Lib.hid (fun (W : World) (hb : Below w.heap.size w W) => hq.quote nm W hn hb)
  have HQ2 := Lib.hid (fun (W : World) (hb : Below w.heap.size w W) => hq.quote lt W hl hb)
  have HS1 := Lib.hid (hq.size nm hn)
  have HS2 := Lib.hid (hq.size lt hl)
  have HR := Lib.hid (show quotB qf n.kind nm lt = if n.kind = 3 then qf nm ++ (arrow ++ qf lt) else qf nm from rfl)
  unfold arrow at HR
  generalize quotB qf n.kind nm lt = R at HR ⊢
  generalize qf lt = q2 at HQ2 HR HS2
  generalize qf nm = q1 at HQ HR HS1
  clear hq
  have hs1 := HS1.out
  have hs2 := HS2.out
  unfold subV subC
  go_enter Tryz.func81, Tryz.ntmps81
  go_upto_region 1 with fail
  have HB0 := Lib.hid (show Below w.heap.size w (w.alloc (.cells #[.int .i64 n.dev, .int .i64 n.ino, .int .i64 n.kind, .int .i64 n.mode, .int .i64 n.uid, .int .i64 n.gid, .int .i64 n.size, .int .i64 n.blocks, .int .i64 n.links, .int .i64 n.ta, .int .i64 n.tb, .int .i64 n.tc, .string n.target, .string nm, .string lt] 67)) from (Below.refl _ _).alloc (Nat.le_refl _) _)
  have HX0 := Lib.hid (heap_alloc_new w (.cells #[.int .i64 n.dev, .int .i64 n.ino, .int .i64 n.kind, .int .i64 n.mode, .int .i64 n.uid, .int .i64 n.gid, .int .i64 n.size, .int .i64 n.blocks, .int .i64 n.links, .int .i64 n.ta, .int .i64 n.tb, .int .i64 n.tc, .string n.target, .string nm, .string lt] 67))
  generalize w.alloc (.cells #[.int .i64 n.dev, .int .i64 n.ino, .int .i64 n.kind, .int .i64 n.mode, .int .i64 n.uid, .int .i64 n.gid, .int .i64 n.size, .int .i64 n.blocks, .int .i64 n.links, .int .i64 n.ta, .int .i64 n.tb, .int .i64 n.tc, .string n.target, .string nm, .string lt] 67) = w1 at HB0 HX0 ⊢
  generalize w.heap.size = B0 at HX0 ⊢
  have k13 : w1.cell? ⟨B0, 13, none⟩ = some (.string nm) := by rw [cell_of_row _ _ _ _ _ _ HX0.out]; rfl
  go_wp2_with fail
  refine (HQ.out _ (by with_reducible exact HB0.out)).mono ?_
  rintro e w2 ⟨rfl, hb2⟩
  have HX2 := Lib.hid ((hb2.block _ (heap_lt HX0.out)).trans HX0.out)
  have HB2 := Lib.hid (below_two HB0.out hb2)
  clear hb2 k13
  have k2 : w2.cell? ⟨B0, 2, none⟩ = some (.int .i64 n.kind) := by rw [cell_of_row _ _ _ _ _ _ HX2.out]; rfl
  have k14 : w2.cell? ⟨B0, 14, none⟩ = some (.string lt) := by rw [cell_of_row _ _ _ _ _ _ HX2.out]; rfl
  by_cases h3 : n.kind = 3
  · have d3 : (n.kind == 3) = true := beq_iff_eq.2 h3
    have hR := HR.out
    rw [if_pos h3] at hR
    clear h3 HR
    go_wp2_with fail
    refine (HQ2.out _ (by with_reducible exact HB2.out)).mono ?_
    rintro e w3 ⟨rfl, hb3⟩
    have HB3 := Lib.hid (below_two HB2.out hb3)
    clear hb3 k2 k14
    obtain ⟨A, hA⟩ : ∃ A, (⟨#[32, 45, 62, 32]⟩ : ByteArray) ++ q2 = A := ⟨_, rfl⟩
    have hAs : A.size = 4 + q2.size := by rw [← hA, ByteArray.size_append]; rfl
    have ha1 := run_string_add_sum (P := Tryz.prog) (w := w3) (⟨#[32, 45, 62, 32]⟩ : ByteArray) q2 (by show 4 + q2.size ≤ _; omega)
    have ha2 := run_string_add_sum (P := Tryz.prog) (w := w3) q1 A (by omega)
    rw [hA] at ha1 hR
    clear hA
    go_wp2_with fail
    go_ret
    exact ⟨by rw [hR]; rfl, HB3.out⟩
  · have d3 : (n.kind == 3) = false := beq_eq_false_iff_ne.2 h3
    have hR := HR.out
    rw [if_neg h3] at hR
    clear h3 HR
    go_wp2_with fail
    go_ret
    exact ⟨by rw [hR]; rfl, HB2.out⟩

theorem ne_of (c k : UInt8) (n : Nat) (hk : k.toNat = n) (h : c ≠ k) : ((c.toNat : Int) == (n : Int)) = false := by
  rw [beq_eq_false_iff_ne]
  intro e
  exact h (UInt8.toNat_inj.1 (by omega))
-- TOLD
set_option maxRecDepth 100000 in
set_option maxHeartbeats 16000000 in
theorem told_any (n : P.Nv) (nm lt : ByteArray) (qf : ByteArray → ByteArray) (dir : ByteArray) (hz : 1 < dir.size) (c : UInt8) (hc : dir[1]'hz = c) (w : World) (ht : FTab w) (hN : NumJ n) (hq : c = 78 → QJ qf w) (hn : nm.size ≤ 60000) (hl : lt.size ≤ 60000) :
    Calls Tryz.prog 48 #[subV n nm lt, .string dir] w fun e w' => e = .returned (.string (txt ((oneJ n nm.data.toList (quotB qf n.kind nm lt).data.toList c).getD dir.data.toList))) ∧ Below w.heap.size w w' := by
  have NN := Lib.hid hN
  have hm0 := hN.m0
  have hm1 := hN.m1
  have HDec := Lib.hid (fun (x : Int) (hx : I64 x) (W : World) (hb : Below w.heap.size w W) => N.dec_any x W hx.1 hx.2 (ht.n.keep hb))
  have HOct := Lib.hid (fun (W : World) (hb : Below w.heap.size w W) => N.oct_any n.mode W hm0 (by omega) (ht.z.keep hb))
  have HTx := Lib.hid (fun (W : World) (hb : Below w.heap.size w W) => P.text_any n W (ht.p.keep hb))
  have HWh := Lib.hid (fun (W : World) => what_any n W)
  have HQd := Lib.hid (fun (h : c = 78) (W : World) (hb : Below w.heap.size w W) => quoted_any n nm lt qf W ((hq h).keep hb) hn hl)
  clear hN ht hq
  obtain ⟨QT, hQT⟩ : ∃ QT, quotB qf n.kind nm lt = QT := ⟨_, rfl⟩
  rw [hQT] at HQd ⊢
  clear hQT
  obtain ⟨R, hR⟩ : ∃ R, txt ((oneJ n nm.data.toList QT.data.toList c).getD dir.data.toList) = R := ⟨_, rfl⟩
  have HR := Lib.hid hR
  rw [hR]
  clear hR
  unfold P.nodeV at HTx HWh
  unfold subV subC at HQd ⊢
  go_enter Tryz.func48, Tryz.ntmps48
  go_upto_region 1 with fail
  obtain ⟨B0, hB0⟩ : ∃ B0, w.heap.size = B0 := ⟨_, rfl⟩
  obtain ⟨w1, hw1⟩ : ∃ w1, w.alloc (.cells #[.int .i64 n.dev, .int .i64 n.ino, .int .i64 n.kind, .int .i64 n.mode, .int .i64 n.uid, .int .i64 n.gid, .int .i64 n.size, .int .i64 n.blocks, .int .i64 n.links, .int .i64 n.ta, .int .i64 n.tb, .int .i64 n.tc, .string n.target, .string nm, .string lt] 67) = w1 := ⟨_, rfl⟩
  have HB1 := Lib.hid (show Below w.heap.size w w1 from by rw [← hw1]; exact (Below.refl _ _).alloc (Nat.le_refl _) _)
  have HX1 := Lib.hid (show w1.heap[B0]? = some (.cells #[.int .i64 n.dev, .int .i64 n.ino, .int .i64 n.kind, .int .i64 n.mode, .int .i64 n.uid, .int .i64 n.gid, .int .i64 n.size, .int .i64 n.blocks, .int .i64 n.links, .int .i64 n.ta, .int .i64 n.tb, .int .i64 n.tc, .string n.target, .string nm, .string lt] 67) from by rw [← hw1, ← hB0]; exact heap_alloc_new _ _)
  rw [hw1, hB0]
  clear hw1 hB0
  have HRg := Lib.hid (show w1.rangeAt B0 0 (ndC n) from range_mid (xs := []) (ys := [.string nm, .string lt]) HX1.out)
  unfold ndC at HRg
  go_upto_region 2 with (first
    | (refine wpList_load_mid rfl 62 (.tmp 6) rfl B0 0 rfl _ _ HRg.out Tryz.underlying62 rfl sizeNd ?_)
    | (refine wpList_store_row rfl 62 (.tmp 5) (.tmp 7) rfl w1.heap.size #[.int .i64 n.dev, .int .i64 n.ino, .int .i64 n.kind, .int .i64 n.mode, .int .i64 n.uid, .int .i64 n.gid, .int .i64 n.size, .int .i64 n.blocks, .int .i64 n.links, .int .i64 n.ta, .int .i64 n.tb, .int .i64 n.tc, .string n.target] rfl rfl 62 _ (heap_alloc_new _ _) sizeNd rfl (ndC_one n) ?_; rw [World.setRow_alloc_new]))
  have HX2 := Lib.hid (heap_alloc_new w1 (.cells #[.int .i64 n.dev, .int .i64 n.ino, .int .i64 n.kind, .int .i64 n.mode, .int .i64 n.uid, .int .i64 n.gid, .int .i64 n.size, .int .i64 n.blocks, .int .i64 n.links, .int .i64 n.ta, .int .i64 n.tb, .int .i64 n.tc, .string n.target] 62))
  have HB2 := Lib.hid (show Below w.heap.size w (w1.alloc (.cells #[.int .i64 n.dev, .int .i64 n.ino, .int .i64 n.kind, .int .i64 n.mode, .int .i64 n.uid, .int .i64 n.gid, .int .i64 n.size, .int .i64 n.blocks, .int .i64 n.links, .int .i64 n.ta, .int .i64 n.tb, .int .i64 n.tc, .string n.target] 62)) from HB1.out.alloc HB1.out.size _)
  have HX3 := Lib.hid ((heap_alloc_old w1 (.cells #[.int .i64 n.dev, .int .i64 n.ino, .int .i64 n.kind, .int .i64 n.mode, .int .i64 n.uid, .int .i64 n.gid, .int .i64 n.size, .int .i64 n.blocks, .int .i64 n.links, .int .i64 n.ta, .int .i64 n.tb, .int .i64 n.tc, .string n.target] 62) (heap_lt HX1.out)).trans HX1.out)
  generalize w1.alloc (.cells #[.int .i64 n.dev, .int .i64 n.ino, .int .i64 n.kind, .int .i64 n.mode, .int .i64 n.uid, .int .i64 n.gid, .int .i64 n.size, .int .i64 n.blocks, .int .i64 n.links, .int .i64 n.ta, .int .i64 n.tb, .int .i64 n.tc, .string n.target] 62) = w2 at HX2 HB2 HX3 ⊢
  generalize w1.heap.size = B1 at HX2 ⊢
  clear HRg HX1 HB1
  by_cases e110 : c = 110
  · have hcn : (dir[1]'hz).toNat = 110 := by rw [hc, e110]; rfl
    have hRR : R = nm := by rw [← HR.out, e110]; exact txt_of nm
    have k13 : w2.cell? ⟨B0, 13, none⟩ = some (.string nm) := by rw [cell_of_row _ _ _ _ _ _ HX3.out]; rfl
    go_wp2_with fail
    go_ret
    exact ⟨by rw [hRR]; rfl, HB2.out⟩
  by_cases e78 : c = 78
  · have hcn : (dir[1]'hz).toNat = 78 := by rw [hc, e78]; rfl
    have hRR : R = QT := by rw [← HR.out, e78]; exact txt_of QT
    go_wp2_with (refine wpList_load_row rfl 67 (.tmp 2) rfl B0 rfl 67 _ (0, 0) _ HX3.out Tryz.underlying67 rfl sizeSub ?_)
    refine (HQd.out e78 _ (by with_reducible exact HB2.out)).mono ?_
    rintro e w3 ⟨rfl, hb3⟩
    have HB3 := Lib.hid (below_two HB2.out hb3)
    clear hb3
    go_wp2_with fail
    go_ret
    exact ⟨by rw [hRR]; rfl, HB3.out⟩
  by_cases e115 : c = 115
  · have hcn : (dir[1]'hz).toNat = 115 := by rw [hc, e115]; rfl
    have hRR : R = txt (Lib.itoa n.size) := by rw [← HR.out, e115]; rfl
    have kk : w2.cell? ⟨B1, 6, none⟩ = some (.int .i64 n.size) := by rw [cell_of_row _ _ _ _ _ _ HX2.out]; rfl
    go_wp2_with fail
    refine (HDec.out n.size NN.out.size _ (by with_reducible exact HB2.out)).mono ?_
    rintro e w3 ⟨rfl, hb3⟩
    have HB3 := Lib.hid (below_two HB2.out hb3)
    clear hb3
    go_wp2_with fail
    go_ret
    exact ⟨by rw [hRR]; rfl, HB3.out⟩
  by_cases e98 : c = 98
  · have hcn : (dir[1]'hz).toNat = 98 := by rw [hc, e98]; rfl
    have hRR : R = txt (Lib.itoa n.blocks) := by rw [← HR.out, e98]; rfl
    have kk : w2.cell? ⟨B1, 7, none⟩ = some (.int .i64 n.blocks) := by rw [cell_of_row _ _ _ _ _ _ HX2.out]; rfl
    go_wp2_with fail
    refine (HDec.out n.blocks NN.out.blk _ (by with_reducible exact HB2.out)).mono ?_
    rintro e w3 ⟨rfl, hb3⟩
    have HB3 := Lib.hid (below_two HB2.out hb3)
    clear hb3
    go_wp2_with fail
    go_ret
    exact ⟨by rw [hRR]; rfl, HB3.out⟩
  by_cases e97 : c = 97
  · have hcn : (dir[1]'hz).toNat = 97 := by rw [hc, e97]; rfl
    have hRR : R = txt (octL n.mode) := by rw [← HR.out, e97]; rfl
    have kk : w2.cell? ⟨B1, 3, none⟩ = some (.int .i64 n.mode) := by rw [cell_of_row _ _ _ _ _ _ HX2.out]; rfl
    go_wp2_with fail
    refine (HOct.out _ (by with_reducible exact HB2.out)).mono ?_
    rintro e w3 ⟨rfl, hb3⟩
    have HB3 := Lib.hid (below_two HB2.out hb3)
    clear hb3
    go_wp2_with fail
    go_ret
    exact ⟨by rw [hRR]; rfl, HB3.out⟩
  by_cases e65 : c = 65
  · have hcn : (dir[1]'hz).toNat = 65 := by rw [hc, e65]; rfl
    have hRR : R = txt (P.textP n.kind n.mode) := by rw [← HR.out, e65]; rfl
    go_wp2_with (refine wpList_load_row rfl 62 (.tmp 5) rfl B1 rfl 62 _ (0, 0) _ HX2.out Tryz.underlying62 rfl sizeNd ?_)
    refine (HTx.out _ (by with_reducible exact HB2.out)).mono ?_
    rintro e w3 ⟨rfl, hb3⟩
    have HB3 := Lib.hid (below_two HB2.out hb3)
    clear hb3
    go_wp2_with fail
    go_ret
    exact ⟨by rw [hRR]; rfl, HB3.out⟩
  by_cases e117 : c = 117
  · have hcn : (dir[1]'hz).toNat = 117 := by rw [hc, e117]; rfl
    have hRR : R = txt (Lib.itoa n.uid) := by rw [← HR.out, e117]; rfl
    have kk : w2.cell? ⟨B1, 4, none⟩ = some (.int .i64 n.uid) := by rw [cell_of_row _ _ _ _ _ _ HX2.out]; rfl
    go_wp2_with fail
    refine (HDec.out n.uid NN.out.uid _ (by with_reducible exact HB2.out)).mono ?_
    rintro e w3 ⟨rfl, hb3⟩
    have HB3 := Lib.hid (below_two HB2.out hb3)
    clear hb3
    go_wp2_with fail
    go_ret
    exact ⟨by rw [hRR]; rfl, HB3.out⟩
  by_cases e103 : c = 103
  · have hcn : (dir[1]'hz).toNat = 103 := by rw [hc, e103]; rfl
    have hRR : R = txt (Lib.itoa n.gid) := by rw [← HR.out, e103]; rfl
    have kk : w2.cell? ⟨B1, 5, none⟩ = some (.int .i64 n.gid) := by rw [cell_of_row _ _ _ _ _ _ HX2.out]; rfl
    go_wp2_with fail
    refine (HDec.out n.gid NN.out.gid _ (by with_reducible exact HB2.out)).mono ?_
    rintro e w3 ⟨rfl, hb3⟩
    have HB3 := Lib.hid (below_two HB2.out hb3)
    clear hb3
    go_wp2_with fail
    go_ret
    exact ⟨by rw [hRR]; rfl, HB3.out⟩
  by_cases e105 : c = 105
  · have hcn : (dir[1]'hz).toNat = 105 := by rw [hc, e105]; rfl
    have hRR : R = txt (Lib.itoa n.ino) := by rw [← HR.out, e105]; rfl
    have kk : w2.cell? ⟨B1, 1, none⟩ = some (.int .i64 n.ino) := by rw [cell_of_row _ _ _ _ _ _ HX2.out]; rfl
    go_wp2_with fail
    refine (HDec.out n.ino NN.out.ino _ (by with_reducible exact HB2.out)).mono ?_
    rintro e w3 ⟨rfl, hb3⟩
    have HB3 := Lib.hid (below_two HB2.out hb3)
    clear hb3
    go_wp2_with fail
    go_ret
    exact ⟨by rw [hRR]; rfl, HB3.out⟩
  by_cases e100 : c = 100
  · have hcn : (dir[1]'hz).toNat = 100 := by rw [hc, e100]; rfl
    have hRR : R = txt (Lib.itoa n.dev) := by rw [← HR.out, e100]; rfl
    have kk : w2.cell? ⟨B1, 0, none⟩ = some (.int .i64 n.dev) := by rw [cell_of_row _ _ _ _ _ _ HX2.out]; rfl
    go_wp2_with fail
    refine (HDec.out n.dev NN.out.dev _ (by with_reducible exact HB2.out)).mono ?_
    rintro e w3 ⟨rfl, hb3⟩
    have HB3 := Lib.hid (below_two HB2.out hb3)
    clear hb3
    go_wp2_with fail
    go_ret
    exact ⟨by rw [hRR]; rfl, HB3.out⟩
  by_cases e104 : c = 104
  · have hcn : (dir[1]'hz).toNat = 104 := by rw [hc, e104]; rfl
    have hRR : R = txt (Lib.itoa n.links) := by rw [← HR.out, e104]; rfl
    have kk : w2.cell? ⟨B1, 8, none⟩ = some (.int .i64 n.links) := by rw [cell_of_row _ _ _ _ _ _ HX2.out]; rfl
    go_wp2_with fail
    refine (HDec.out n.links NN.out.lnk _ (by with_reducible exact HB2.out)).mono ?_
    rintro e w3 ⟨rfl, hb3⟩
    have HB3 := Lib.hid (below_two HB2.out hb3)
    clear hb3
    go_wp2_with fail
    go_ret
    exact ⟨by rw [hRR]; rfl, HB3.out⟩
  by_cases e70 : c = 70
  · have hcn : (dir[1]'hz).toNat = 70 := by rw [hc, e70]; rfl
    have hRR : R = txt (whatL n) := by rw [← HR.out, e70]; rfl
    go_wp2_with (refine wpList_load_row rfl 62 (.tmp 5) rfl B1 rfl 62 _ (0, 0) _ HX2.out Tryz.underlying62 rfl sizeNd ?_)
    refine (HWh.out _).mono ?_
    rintro e w3 ⟨rfl, hb3⟩
    have HB3 := Lib.hid (below_two HB2.out hb3)
    clear hb3
    go_wp2_with fail
    go_ret
    exact ⟨by rw [hRR]; rfl, HB3.out⟩
  by_cases e88 : c = 88
  · have hcn : (dir[1]'hz).toNat = 88 := by rw [hc, e88]; rfl
    have hRR : R = txt (Lib.itoa n.ta) := by rw [← HR.out, e88]; rfl
    have kk : w2.cell? ⟨B1, 9, none⟩ = some (.int .i64 n.ta) := by rw [cell_of_row _ _ _ _ _ _ HX2.out]; rfl
    go_wp2_with fail
    refine (HDec.out n.ta NN.out.ta _ (by with_reducible exact HB2.out)).mono ?_
    rintro e w3 ⟨rfl, hb3⟩
    have HB3 := Lib.hid (below_two HB2.out hb3)
    clear hb3
    go_wp2_with fail
    go_ret
    exact ⟨by rw [hRR]; rfl, HB3.out⟩
  by_cases e89 : c = 89
  · have hcn : (dir[1]'hz).toNat = 89 := by rw [hc, e89]; rfl
    have hRR : R = txt (Lib.itoa n.tb) := by rw [← HR.out, e89]; rfl
    have kk : w2.cell? ⟨B1, 10, none⟩ = some (.int .i64 n.tb) := by rw [cell_of_row _ _ _ _ _ _ HX2.out]; rfl
    go_wp2_with fail
    refine (HDec.out n.tb NN.out.tb _ (by with_reducible exact HB2.out)).mono ?_
    rintro e w3 ⟨rfl, hb3⟩
    have HB3 := Lib.hid (below_two HB2.out hb3)
    clear hb3
    go_wp2_with fail
    go_ret
    exact ⟨by rw [hRR]; rfl, HB3.out⟩
  by_cases e90 : c = 90
  · have hcn : (dir[1]'hz).toNat = 90 := by rw [hc, e90]; rfl
    have hRR : R = txt (Lib.itoa n.tc) := by rw [← HR.out, e90]; rfl
    have kk : w2.cell? ⟨B1, 11, none⟩ = some (.int .i64 n.tc) := by rw [cell_of_row _ _ _ _ _ _ HX2.out]; rfl
    go_wp2_with fail
    refine (HDec.out n.tc NN.out.tc _ (by with_reducible exact HB2.out)).mono ?_
    rintro e w3 ⟨rfl, hb3⟩
    have HB3 := Lib.hid (below_two HB2.out hb3)
    clear hb3
    go_wp2_with fail
    go_ret
    exact ⟨by rw [hRR]; rfl, HB3.out⟩
  by_cases e37 : c = 37
  · have hcn : (dir[1]'hz).toNat = 37 := by rw [hc, e37]; rfl
    have hRR : R = ⟨#[37]⟩ := by rw [← HR.out, e37]; rfl
    go_wp2_with fail
    go_ret
    exact ⟨by rw [hRR]; rfl, HB2.out⟩
  have hRR : R = dir := by
    have e0 : oneJ n nm.data.toList QT.data.toList c = none := by
      unfold oneJ
      rw [if_neg e110, if_neg e78, if_neg e115, if_neg e98, if_neg e97, if_neg e65, if_neg e117, if_neg e103, if_neg e105, if_neg e100, if_neg e104, if_neg e70, if_neg e88, if_neg e89, if_neg e90, if_neg e37]
    rw [← HR.out, e0]
    exact txt_of dir
  have hcn : (dir[1]'hz).toNat = c.toNat := by rw [hc]
  have d110 := ne_of c 110 110 rfl e110
  have d78 := ne_of c 78 78 rfl e78
  have d115 := ne_of c 115 115 rfl e115
  have d98 := ne_of c 98 98 rfl e98
  have d97 := ne_of c 97 97 rfl e97
  have d65 := ne_of c 65 65 rfl e65
  have d117 := ne_of c 117 117 rfl e117
  have d103 := ne_of c 103 103 rfl e103
  have d105 := ne_of c 105 105 rfl e105
  have d100 := ne_of c 100 100 rfl e100
  have d104 := ne_of c 104 104 rfl e104
  have d70 := ne_of c 70 70 rfl e70
  have d88 := ne_of c 88 88 rfl e88
  have d89 := ne_of c 89 89 rfl e89
  have d90 := ne_of c 90 90 rfl e90
  have d37 := ne_of c 37 37 rfl e37
  clear e110 e78 e115 e98 e97 e65 e117 e103 e105 e100 e104 e70 e88 e89 e90 e37
  go_wp2_with fail
  go_ret
  exact ⟨by rw [hRR]; rfl, HB2.out⟩
-- TOLD END
end Go.Proofs.YtigkdehaepenhaaGreatDoor.J
