/-
  The law DigitsRounds returns true for every input: quotients, sums and hundredths are the reference's. Conditions: none but the row's own (the library's tables lie as their text lays them).
-/
import Derived.Test.YtghbamknhiiieaaDoorAdd
import Derived.Test.YtghbamknhiiieaaDoorPercent
import Derived.Test.YtghbamknhiiieaaDoorDec
import Derived.Lib.AtoiErrMem
namespace Go.Proofs.YtghbamknhiiieaaDoor
open Go.RowKit

theorem IsRow.keep {k : IntKind} {w w' : World} {a : Option Addr} {len cap : Nat} {zs : List Int} (h : IsRow k w a len cap zs) (hb : Below w.heap.size w w') : IsRow k w' a len cap zs := by
  rcases h with h | ⟨x, rfl, hl, hm, hz, hc, hw⟩
  · exact .inl h
  · refine .inr ⟨x, rfl, hl, hm, hz, fun i hi => ?_, hw⟩
    have := hc i hi
    rw [hb.cell (Lib.lt_of_cell this)]
    exact this

set_option maxHeartbeats 1000000 in
theorem rounds_walk (n d : Int) (a : Option Addr) (len cap : Nat) (zs : List Int) (w : World) (h1 : -9223372036854775808 ≤ n) (h2 : n ≤ 9223372036854775807) (h3 : -9223372036854775808 ≤ d) (h4 : d ≤ 9223372036854775807)
    (hm : len ≤ 9223372036854775807) (hr : IsRow .i64 w a len cap zs) (ht : Tab w) :
    Calls Tryd.prog 6 #[.int .i64 n, .int .i64 d, .slice a len cap] w fun e w' => e = .returned (.bool true) ∧ Below w.heap.size w w' := by
  have HT := Lib.hid ht
  have HR := Lib.hid hr
  clear ht hr
  go_enter Tryd.func6, Tryd.ntmps6
  go_wp2_with fail
  refine (awake_any _ HT.out).mono ?_
  rintro e w1 ⟨rfl, hb⟩
  have HB := Lib.hid hb
  clear hb
  by_cases hl : 100 < len
  · go_wp2_with fail
    refine (awake_any _ (HT.out.keep HB.out)).mono ?_
    rintro e w2 ⟨rfl, hb⟩
    have HB2 := Lib.hid (below_two HB.out hb)
    clear hb
    go_wp2_with fail
    go_ret
    exact ⟨rfl, HB2.out⟩
  · go_wp2_with fail
    refine (ceil_any _ _ _ h1 h2 h3 h4).mono ?_
    rintro e w2 ⟨rfl, rfl⟩
    go_wp2_with fail
    refine (refCeil_any _ _ _ h1 h2 h3 h4).mono ?_
    rintro e w2 ⟨rfl, rfl⟩
    go_wp2_with fail
    refine (add_row _ _ _ _ _ (HR.out.keep HB.out)).mono ?_
    rintro e w2 ⟨rfl, rfl⟩
    go_wp2_with fail
    refine (refAdd_row _ _ _ _ _ (HR.out.keep HB.out)).mono ?_
    rintro e w2 ⟨rfl, rfl⟩
    go_wp2_with fail
    refine (percent_any _ _ _ h1 h2 h3 h4).mono ?_
    rintro e w2 ⟨rfl, k, rfl⟩
    go_wp2_with fail
    refine (refPercent_any _ _ _ h1 h2 h3 h4).mono ?_
    rintro e w2 ⟨rfl, k2, rfl⟩
    go_wp2_with fail
    go_ret
    exact ⟨rfl, below_drewN HB.out _⟩
end Go.Proofs.YtghbamknhiiieaaDoor
