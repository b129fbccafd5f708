/-
  What the listed package-level variables give the walks: the tables, cell by cell. Conditions: none.
-/
import Derived.Test.YtiegibgllnojcaaDoorCards
import Derived.Test.YtiegibgllnojcaaDoorTie
import Derived.Test.YtiegibgllnojcaaDoorSBuild
import Derived.ProofKit
import Derived.Lib.LaidTab
import Derived.OpenShut
import Derived.ShutString
import Derived.ChangeOld
import Derived.Below
import Derived.LaidMore
import Derived.ChangeSame
import Derived.Deep.DeepHandedRow
import Derived.Deep.DeepWitnessRowRef
import Derived.Stop.LaidErr
namespace Go.Proofs.YtiegibgllnojcaaDoor
open Go.ChangeShapes Go.WideShapes Go.ChangeAt Go.RowKit

theorem own : ownKnob Tryd.prog.godebug = none := by kernel_rfl
theorem laidOut : laidOutB Tryd.prog = true := by kernel_rfl
theorem gLen : Tryd.prog.globalNamed "domesday/date.lengths" = some 2 := by kernel_rfl
theorem gLenType : (Tryd.prog.globals[2]?).map (·.type) = some 83 := by kernel_rfl
theorem gPowType : (Tryd.prog.globals[3]?).map (·.type) = some 86 := by kernel_rfl
theorem gMon : Tryd.prog.globalNamed "domesday/stamp.monthNames" = some 0 := by kernel_rfl
theorem gMonType : (Tryd.prog.globals[0]?).map (·.type) = some 64 := by kernel_rfl
theorem gDay : Tryd.prog.globalNamed "domesday/stamp.dayNames" = some 1 := by kernel_rfl
theorem gDayType : (Tryd.prog.globals[1]?).map (·.type) = some 65 := by kernel_rfl
theorem cellsLen : Tryd.prog.cellsOf 83 = 12 := by kernel_rfl
theorem cellsInt : Tryd.prog.cellsOf 3 = 1 := by kernel_rfl
theorem cellsPow : Tryd.prog.cellsOf 86 = 20 := by kernel_rfl
theorem cellsU64 : Tryd.prog.cellsOf 56 = 1 := by kernel_rfl
theorem cellsMon : Tryd.prog.cellsOf 64 = 12 := by kernel_rfl
theorem cellsDay : Tryd.prog.cellsOf 65 = 7 := by kernel_rfl
theorem cellsStr : Tryd.prog.cellsOf 9 = 1 := by kernel_rfl
theorem maxLen_eq : maxLen = 9223372036854775807 := by decide +kernel
theorem text_max {n : Nat} (h : n ≤ maxLen) : n ≤ 9223372036854775807 := by rw [maxLen_eq] at h; exact h
def lens : List Int := [31, 28, 31, 30, 31, 30, 31, 31, 30, 31, 30, 31]

/-- A list of texts, as data. -/
def textsD {H : Type} (ls : List (List UInt8)) : DataW H := .agg (ls.map fun l => .lit (.string l))
/-- An array that reads as a list of texts holds them, cell by cell. -/
theorem cells_of_texts {H : Type} {enc : TypeId × Value → H} {P : Program} {w : World} {base : Nat} {sp : Nat → Bool} {held : Bool} {fuel : Nat} {t e : TypeId} {n : Nat} {cs : List Value} {ls : List (List UInt8)} {p : List MemPlace}
    (ht : P.underlying t = some (.array n e)) (he : P.underlying e = some .string) (hce : P.cellsOf e = 1) (h : DataW.trod enc P w base sp held fuel t cs = some (textsD ls, p)) (i : Nat) (l : List UInt8) (hi : ls[i]? = some l) : cs[i]? = some (.string (txt l)) := by
  obtain ⟨xs, m, _, hx, hlen, hxl, hf⟩ := DataW.trod_array ht h
  have e1 : ls.map (fun l => (DataW.lit (.string l) : DataW H)) = xs.map (·.1) := by
    have := congrArg Prod.fst hx
    simpa [textsD] using this
  have e2 : ls.length = n := by
    have := congrArg List.length e1
    simp at this
    omega
  have hin : i < ls.length := (List.getElem?_eq_some_iff.1 hi).1
  have g := hf i (by omega)
  rw [hce, Nat.mul_one] at g
  obtain ⟨y, hy⟩ : ∃ y, xs[i]? = some y := ⟨xs[i]'(by omega), List.getElem?_eq_getElem (by omega)⟩
  rw [hy] at g
  obtain ⟨s, hs, hys, _⟩ := DataW.trod_string he g
  have e3 := congrArg (·[i]?) e1
  simp only [List.getElem?_map, hi, hy, Option.map_some, Option.some.injEq] at e3
  rw [hys] at e3
  injection e3 with e3
  injection e3 with e3
  have e4 : cs[i]? = some (.string s) := by
    have := congrArg (·[0]?) hs
    simpa [List.getElem?_take, List.getElem?_drop] using this
  rw [e4, e3]
  cases s
  rfl
theorem text_at {P : Program} {W : World} {name : String} {ls : List (List UInt8)} {rest : List (String × DataW Unit)} {g : Nat} {t e : TypeId} {n : Nat}
    (hg : P.globalNamed name = some g) (hty : (P.globals[g]?).map (·.type) = some t) (ht : P.underlying t = some (.array n e)) (he : P.underlying e = some .string) (hce : P.cellsOf e = 1)
    (h : laidMet P ((name, textsD ls) :: rest) W) (i : Nat) (l : List UInt8) (hi : ls[i]? = some l) : W.cell? ⟨g, i, none⟩ = some (.string (txt l)) := by
  obtain ⟨ps, ⟨g', t', cs, fuel, p, q, hg', ht', hvar, hd, _, _⟩, _⟩ := h
  obtain rfl := Option.some.inj (hg.symm.trans hg')
  obtain rfl := Option.some.inj (hty.symm.trans ht')
  have := World.var?_cell hg hvar i
  rw [this]
  have c := cells_of_texts ht he hce hd i l hi
  simpa using c
def monL : List (List UInt8) := [[74, 97, 110], [70, 101, 98], [77, 97, 114], [65, 112, 114], [77, 97, 121], [74, 117, 110], [74, 117, 108], [65, 117, 103], [83, 101, 112], [79, 99, 116], [78, 111, 118], [68, 101, 99]]
def dayNL : List (List UInt8) := [[83, 117, 110], [77, 111, 110], [84, 117, 101], [87, 101, 100], [84, 104, 117], [70, 114, 105], [83, 97, 116]]
theorem mon_list (k : Nat) (h : k < 12) : monL[k]? = some (monName k) := by
  match k, h with
  | 0, _ | 1, _ | 2, _ | 3, _ | 4, _ | 5, _ | 6, _ | 7, _ | 8, _ | 9, _ | 10, _ | 11, _ => rfl
theorem day_list (k : Nat) (h : k < 7) : dayNL[k]? = some (dayName k) := by
  match k, h with
  | 0, _ | 1, _ | 2, _ | 3, _ | 4, _ | 5, _ | 6, _ => rfl

theorem tab_of {W : World} {a b : String × DataW Unit} {rest : List (String × DataW Unit)} (h : laidMet Tryd.prog (("domesday/date.lengths", Rows.laid_domesday_date_lengths) :: a :: b :: ("internal/strconv.uint64pow10", Rows.laid_internal_strconv_uint64pow10) :: ("domesday/stamp.monthNames", Rows.laid_domesday_stamp_monthNames) :: ("domesday/stamp.dayNames", Rows.laid_domesday_stamp_dayNames) :: rest) W) : STab W := by
  have t1 : Lib.TabIs Tryd.prog W "domesday/date.lengths" .i64 lens := Lib.tabIs_of_head gLen gLenType Tryd.underlying83 Tryd.underlying3 cellsInt cellsLen h
  have t2 : Lib.TabIs Tryd.prog W "internal/strconv.uint64pow10" .u64 Lib.pow10Tab := Lib.tabIs_of_head gPow gPowType Tryd.underlying86 Tryd.underlying56 cellsU64 cellsPow h.tail.tail.tail
  refine ⟨t2, ⟨fun k hk => ?_⟩, fun k hk => ?_, fun k hk => ?_⟩
  · have := t1.cell gLen k hk
    rw [this]
    match k, hk with
    | 0, _ | 1, _ | 2, _ | 3, _ | 4, _ | 5, _ | 6, _ | 7, _ | 8, _ | 9, _ | 10, _ | 11, _ => rfl
  · exact text_at (ls := monL) gMon gMonType Tryd.underlying64 Tryd.underlying9 cellsStr h.tail.tail.tail.tail k _ (mon_list k hk)
  · exact text_at (ls := dayNL) gDay gDayType Tryd.underlying65 Tryd.underlying9 cellsStr h.tail.tail.tail.tail.tail k _ (day_list k hk)
end Go.Proofs.YtiegibgllnojcaaDoor
