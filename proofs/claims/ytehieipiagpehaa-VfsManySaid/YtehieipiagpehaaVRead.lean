/-
  What the program's small readers of a file system return. Conditions: the file system lies in memory.
-/
import Derived.Test.YtehieipiagpehaaVFs
namespace Go.Proofs.Ytehieipiagpehaa
open Go.RowKit

def hasB (h : Fsh) (i : Int) : Bool := decide (0 ≤ i ∧ i < (h.X.length : Int))

set_option maxHeartbeats 1000000 in
theorem has_any (h : Fsh) (i : Int) (w : World) (H : Fs h w) (hn : 0 < h.X.length) :
    Calls Try.prog 42 #[.pointer (some ⟨h.p, 0, none⟩), .int .i64 i] w fun e w' => e = .returned (.bool (hasB h i)) ∧ w = w' := by
  obtain ⟨g, cap, hv, _, _⟩ := H.slice hn
  have c0 := H.cell0
  rw [hv] at c0
  clear hv
  have HB := Lib.hid (show hasB h i = (decide (0 ≤ i) && decide (i < (h.X.length : Int))) from by simp [hasB])
  rcases Classical.em (0 ≤ i) with hi | hi
  · have d1 : decide (0 ≤ i) = true := decide_eq_true hi
    go_enter Try.func42, Try.ntmps42
    go_wp2
    go_ret
    exact ⟨ret_bool (by rw [HB.out, d1]; rfl), rfl⟩
  · have d1 : decide (0 ≤ i) = false := decide_eq_false hi
    go_enter Try.func42, Try.ntmps42
    go_wp2
    go_ret
    exact ⟨ret_bool (by rw [HB.out, d1]; rfl), rfl⟩

set_option maxHeartbeats 1000000 in
theorem isDir_any (h : Fsh) (i : Nat) (x : Nd × Value) (w : World) (H : Fs h w) (hx : h.X[i]? = some x) :
    Calls Try.prog 43 #[.pointer (some ⟨h.p, 0, none⟩), .int .i64 (i : Int)] w fun e w' => e = .returned (.bool (x.1.kind == 2)) ∧ w = w' := by
  have hi : i < h.X.length := (List.getElem?_eq_some_iff.1 hx).1
  obtain ⟨g, cap, hv, _, _⟩ := H.slice (by omega)
  have c0 := H.cell0
  rw [hv] at c0
  have c2 := H.at_node hv hx (k := 2) (by omega) rfl
  clear hv
  go_enter Try.func43, Try.ntmps43
  go_wp2
  go_ret
  exact ⟨ret_bool rfl, rfl⟩

set_option maxHeartbeats 1000000 in
theorem isFirst_any (h : Fsh) (i : Nat) (x : Nd × Value) (w : World) (H : Fs h w) (hx : h.X[i]? = some x) :
    Calls Try.prog 47 #[.pointer (some ⟨h.p, 0, none⟩), .int .i64 (i : Int)] w fun e w' => e = .returned (.bool (x.1.ino == 1)) ∧ w = w' := by
  have hi : i < h.X.length := (List.getElem?_eq_some_iff.1 hx).1
  obtain ⟨g, cap, hv, _, _⟩ := H.slice (by omega)
  have c0 := H.cell0
  rw [hv] at c0
  have c2 := H.at_node hv hx (k := 1) (by omega) rfl
  clear hv
  go_enter Try.func47, Try.ntmps47
  go_wp2
  go_ret
  exact ⟨ret_bool rfl, rfl⟩

set_option maxHeartbeats 1000000 in
theorem over_any (h : Fsh) (i : Nat) (x : Nd × Value) (w : World) (H : Fs h w) (hx : h.X[i]? = some x) :
    Calls Try.prog 35 #[.pointer (some ⟨h.p, 0, none⟩), .int .i64 (i : Int)] w fun e w' => e = .returned (.int .i64 x.1.over) ∧ w = w' := by
  have hi : i < h.X.length := (List.getElem?_eq_some_iff.1 hx).1
  obtain ⟨g, cap, hv, _, _⟩ := H.slice (by omega)
  have c0 := H.cell0
  rw [hv] at c0
  have c2 := H.at_node hv hx (k := 15) (by omega) rfl
  have hh := has_any h i w H (by omega)
  rw [show hasB h (i : Int) = true from by simp [hasB, hi]] at hh
  clear hv
  go_enter Try.func35, Try.ntmps35
  go_wp2_with (refine hh.mono ?_; rintro e w2 ⟨rfl, hw⟩; subst hw)
  go_ret
  exact ⟨rfl, rfl⟩
set_option maxHeartbeats 1000000 in
theorem over_no (h : Fsh) (i : Int) (w : World) (H : Fs h w) (hn : 0 < h.X.length) (hi : hasB h i = false) :
    Calls Try.prog 35 #[.pointer (some ⟨h.p, 0, none⟩), .int .i64 i] w fun e w' => e = .returned (.int .i64 i) ∧ w = w' := by
  have hh := has_any h i w H hn
  rw [hi] at hh
  go_enter Try.func35, Try.ntmps35
  go_wp2_with (refine hh.mono ?_; rintro e w2 ⟨rfl, hw⟩; subst hw)
  go_ret
  exact ⟨rfl, rfl⟩

set_option maxHeartbeats 1000000 in
theorem up_any (h : Fsh) (i : Nat) (x : Nd × Value) (w : World) (H : Fs h w) (hx : h.X[i]? = some x) :
    Calls Try.prog 38 #[.pointer (some ⟨h.p, 0, none⟩), .int .i64 (i : Int)] w fun e w' => e = .returned (.int .i64 x.1.up) ∧ w = w' := by
  have hi : i < h.X.length := (List.getElem?_eq_some_iff.1 hx).1
  obtain ⟨g, cap, hv, _, _⟩ := H.slice (by omega)
  have c0 := H.cell0
  rw [hv] at c0
  have c2 := H.at_node hv hx (k := 14) (by omega) rfl
  have hh := has_any h i w H (by omega)
  rw [show hasB h (i : Int) = true from by simp [hasB, hi]] at hh
  clear hv
  go_enter Try.func38, Try.ntmps38
  go_wp2_with (refine hh.mono ?_; rintro e w2 ⟨rfl, hw⟩; subst hw)
  go_ret
  exact ⟨rfl, rfl⟩
set_option maxHeartbeats 1000000 in
theorem up_no (h : Fsh) (i : Int) (w : World) (H : Fs h w) (hn : 0 < h.X.length) (hi : hasB h i = false) :
    Calls Try.prog 38 #[.pointer (some ⟨h.p, 0, none⟩), .int .i64 i] w fun e w' => e = .returned (.int .i64 (-1)) ∧ w = w' := by
  have hh := has_any h i w H hn
  rw [hi] at hh
  go_enter Try.func38, Try.ntmps38
  go_wp2_with (refine hh.mono ?_; rintro e w2 ⟨rfl, hw⟩; subst hw)
  go_ret
  exact ⟨rfl, rfl⟩

set_option maxHeartbeats 1000000 in
theorem count_any (h : Fsh) (w : World) (H : Fs h w) (hn : 0 < h.X.length) :
    Calls Try.prog 18 #[.pointer (some ⟨h.p, 0, none⟩)] w fun e w' => e = .returned (.int .i64 (h.X.length : Int)) ∧ w = w' := by
  obtain ⟨g, cap, hv, _, _⟩ := H.slice hn
  have c0 := H.cell0
  rw [hv] at c0
  clear hv
  go_enter Try.func18, Try.ntmps18
  go_wp2
  go_ret
  exact ⟨rfl, rfl⟩
end Go.Proofs.Ytehieipiagpehaa
