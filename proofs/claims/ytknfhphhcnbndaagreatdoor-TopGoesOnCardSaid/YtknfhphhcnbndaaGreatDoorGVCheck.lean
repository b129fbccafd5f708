/-
  What is wrong with a change, as the program tells it of one more name, and of a node. Conditions: none but that the file system lies in memory.
-/
import Derived.Test.YtknfhphhcnbndaaGreatDoorGVBuild
import Derived.Deep.QuietTactic
import Derived.BigQuiet
set_option linter.unusedSimpArgs false
set_option linter.unusedVariables false
namespace Go.Proofs.YtknfhphhcnbndaaGreatDoor.V
open Go.RowKit

/-- The node of that number. -/
def ndAt (h : Fsh) (i : Int) : Option Nd := if 0 ≤ i ∧ i < (h.X.length : Int) then (h.X[i.toNat]?).map Prod.fst else none
theorem ndAt_some {h : Fsh} {i : Int} {n : Nd} (hn : ndAt h i = some n) : ∃ (k : Nat) (x : Nd × Value), i = (k : Int) ∧ h.X[k]? = some x ∧ x.1 = n ∧ hasB h i = true := by
  unfold ndAt at hn
  split at hn
  · rename_i hh
    obtain ⟨x, hx, hxn⟩ := Option.map_eq_some_iff.1 hn
    exact ⟨i.toNat, x, by omega, hx, hxn, by simp [hasB, hh]⟩
  · cases hn
theorem ndAt_none {h : Fsh} {i : Int} (hn : ndAt h i = none) : hasB h i = false := by
  unfold ndAt at hn
  split at hn
  · rename_i hh
    have : i.toNat < h.X.length := by omega
    rw [List.getElem?_eq_getElem this] at hn
    cases hn
  · rename_i hh
    simpa [hasB] using hh

theorem below_drewN {B n : Nat} {w w' : World} (hb : Below B w w') : Below B w (w'.drewN n) := ⟨hb.os, hb.tape, hb.output, hb.size, hb.block⟩
def shareE (M : Int → Option Nd) (c : Chg) (d : Int) : Int :=
  match M c.to with
  | none => 2
  | some y => if y.kind = 2 then 1 else if y.dev ≠ d then 1 else 0

set_option maxRecDepth 100000 in
set_option maxHeartbeats 4000000 in
theorem share_any (h : Fsh) (i : Nat) (x : Nd × Value) (c : Chg) (w : World) (H : Fs h w) (hi : c.at_ = (i : Int)) (hx : h.X[i]? = some x) :
    Calls Tryz.prog 180 #[.pointer (some ⟨h.p, 0, none⟩), chgV c] w fun e w' => e = .returned (.int .i64 (shareE (ndAt h) c x.1.dev)) ∧ Below w.heap.size w w' := by
  have hil : i < h.X.length := (List.getElem?_eq_some_iff.1 hx).1
  obtain ⟨g, cap, hv, _, _⟩ := H.slice (by omega)
  have hp : h.p < w.heap.size := H.lt (.inl rfl)
  have hgl : g < w.heap.size := H.lt (.inr (.inl (by rw [hv]; rfl)))
  have HK := Lib.hid (show ∀ W, Below w.heap.size w W → Fs h W from fun W hb => H.keep hb)
  have HBa := Lib.hid (show ∀ o, Below w.heap.size w (w.alloc o) from fun o => (Below.refl _ _).alloc (Nat.le_refl _) _)
  have c0 : w.cell? ⟨h.p, 0, none⟩ = some (.slice (some ⟨g, 0, none⟩) h.X.length cap) := by rw [← hv]; exact H.cell0
  have c0a : ∀ o, (w.alloc o).cell? ⟨h.p, 0, none⟩ = some (.slice (some ⟨g, 0, none⟩) h.X.length cap) := fun o => (World.cell?_alloc_past _ _ _ hp).trans c0
  have d0 : w.cell? ⟨g, i * 17, none⟩ = some (.int .i64 x.1.dev) := H.at_node hv hx (k := 0) (by omega) rfl
  have d0a : ∀ o, (w.alloc o).cell? ⟨g, i * 17, none⟩ = some (.int .i64 x.1.dev) := fun o => (World.cell?_alloc_past _ _ _ hgl).trans d0
  have HH := Lib.hid H
  have HV := Lib.hid hv
  cases hto : ndAt h c.to with
  | none =>
    have hno := ndAt_none hto
    have HT := Lib.hid (show shareE (ndAt h) c x.1.dev = 2 from by unfold shareE; rw [hto])
    clear hto hv H hx c0 c0a d0 d0a
    unfold chgV
    rw [hi]
    go_enter Tryz.func180, Tryz.ntmps180
    go_wp2_with (go_at_call 65; refine (has_any h c.to _ (HK.out _ (HBa.out _)) (by omega)).mono ?_; rintro e w2 ⟨rfl, hw⟩; subst hw; rw [hno])
    go_ret
    exact ⟨ret_int HT.out.symm, HBa.out _⟩
  | some n =>
    obtain ⟨k, y, hk, hy, hyn, hhas⟩ := ndAt_some hto
    subst hyn
    have e0 : w.cell? ⟨g, k * 17, none⟩ = some (.int .i64 y.1.dev) := H.at_node hv hy (k := 0) (by omega) rfl
    have e0a : ∀ o, (w.alloc o).cell? ⟨g, k * 17, none⟩ = some (.int .i64 y.1.dev) := fun o => (World.cell?_alloc_past _ _ _ hgl).trans e0
    have hkl : k < h.X.length := (List.getElem?_eq_some_iff.1 hy).1
    have HT := Lib.hid (show shareE (ndAt h) c x.1.dev = if y.1.kind = 2 then 1 else if y.1.dev ≠ x.1.dev then 1 else 0 from by unfold shareE; rw [hto])
    have HY := Lib.hid hy
    rw [hk] at hhas
    clear hto hv H hx hy
    unfold chgV
    rw [hi, hk]
    clear hk hi
    by_cases hd : y.1.kind = 2
    · have b1 : (y.1.kind == 2) = true := by simp [hd]
      have HD := Lib.hid hd
      clear hd
      go_enter Tryz.func180, Tryz.ntmps180
      go_wp2_with (first
        | (go_at_call 65; refine (has_any h (k : Int) _ (HK.out _ (HBa.out _)) (by omega)).mono ?_; rintro e w2 ⟨rfl, hw⟩; subst hw; rw [hhas])
        | (go_at_call 178; refine (isDir_any h k y _ (HK.out _ (HBa.out _)) HY.out).mono ?_; rintro e w2 ⟨rfl, hw⟩; subst hw; rw [b1]))
      go_ret
      exact ⟨ret_int (by rw [HT.out, if_pos HD.out]), HBa.out _⟩
    · have b1 : (y.1.kind == 2) = false := by simp [hd]
      have HD := Lib.hid hd
      clear hd
      go_enter Tryz.func180, Tryz.ntmps180
      go_wp2_with (first
        | (go_at_call 65; refine (has_any h (k : Int) _ (HK.out _ (HBa.out _)) (by omega)).mono ?_; rintro e w2 ⟨rfl, hw⟩; subst hw; rw [hhas])
        | (go_at_call 178; refine (isDir_any h k y _ (HK.out _ (HBa.out _)) HY.out).mono ?_; rintro e w2 ⟨rfl, hw⟩; subst hw; rw [b1]))
      go_quiet (fail)
      go_wp2
      all_goals go_ret
      · have hd : (y.1.dev != x.1.dev) = true := by assumption
        exact ⟨ret_int (by rw [HT.out, if_neg HD.out, if_pos (by simpa using hd)]), below_drewN (HBa.out _)⟩
      · have hd : (y.1.dev != x.1.dev) = false := by assumption
        exact ⟨ret_int (by rw [HT.out, if_neg HD.out, if_neg (by simpa using hd)]), below_drewN (HBa.out _)⟩

def nodeE (M : Int → Option Nd) (c : Chg) : Int :=
  match M c.to with
  | none => 2
  | some y => if c.kind = 6 ∧ (c.a < 0 ∨ 3 ≤ c.a) then 1 else if c.kind = 7 then (if y.kind = 2 then (if y.over ≠ c.to ∨ y.ino = 1 then 1 else 0) else 3) else 0
theorem same_symm {P : Program} {f : FuncId} {a : Array Value} {w : World} {v : Value} (h : Calls P f a w fun e w' => e = .returned v ∧ w = w') : Calls P f a w fun e w' => e = .returned v ∧ w' = w := h.mono fun e w' ⟨p, q⟩ => ⟨p, q.symm⟩

set_option maxRecDepth 100000 in
set_option maxHeartbeats 4000000 in
theorem node_any (h : Fsh) (c : Chg) (w : World) (H : Fs h w) (hn : 0 < h.X.length) :
    Calls Tryz.prog 125 #[.pointer (some ⟨h.p, 0, none⟩), chgV c] w fun e w' => e = .returned (.int .i64 (nodeE (ndAt h) c)) ∧ Below w.heap.size w w' := by
  have HK := Lib.hid (show ∀ W, Below w.heap.size w W → Fs h W from fun W hb => H.keep hb)
  have HBa := Lib.hid (show ∀ o, Below w.heap.size w (w.alloc o) from fun o => (Below.refl _ _).alloc (Nat.le_refl _) _)
  have HH := Lib.hid H
  cases hto : ndAt h c.to with
  | none =>
    have hno := ndAt_none hto
    have HT := Lib.hid (show nodeE (ndAt h) c = 2 from by unfold nodeE; rw [hto])
    clear hto H
    unfold chgV
    go_enter Tryz.func125, Tryz.ntmps125
    go_wp2_with (go_at_call 65; refine (has_any h c.to _ (HK.out _ (HBa.out _)) hn).mono ?_; rintro e w2 ⟨rfl, hw⟩; subst hw; rw [hno])
    go_ret
    exact ⟨ret_int HT.out.symm, HBa.out _⟩
  | some n =>
    obtain ⟨k, y, hk, hy, hyn, hhas⟩ := ndAt_some hto
    subst hyn
    have HT := Lib.hid (show nodeE (ndAt h) c = if c.kind = 6 ∧ (c.a < 0 ∨ 3 ≤ c.a) then 1 else if c.kind = 7 then (if y.1.kind = 2 then (if y.1.over ≠ (k : Int) ∨ y.1.ino = 1 then 1 else 0) else 3) else 0 from by unfold nodeE; rw [hto, hk])
    have HY := Lib.hid hy
    rw [hk] at hhas
    clear hto H hy
    unfold chgV
    rw [hk]
    clear hk
    by_cases h6 : c.kind = 6
    · have HT6 := Lib.hid (show nodeE (ndAt h) c = if c.a < 0 ∨ 3 ≤ c.a then 1 else 0 from by
        rw [HT.out]
        by_cases q : c.a < 0 ∨ 3 ≤ c.a
        · rw [if_pos ⟨h6, q⟩, if_pos q]
        · rw [if_neg (fun e => q e.2), if_neg q, if_neg (by omega)])
      rw [h6]
      clear h6
      by_cases ha : c.a < 0
      · have d1 : decide (c.a < 0) = true := decide_eq_true ha
        go_enter Tryz.func125, Tryz.ntmps125
        go_wp2_with (go_at_call 65; refine (has_any h (k : Int) _ (HK.out _ (HBa.out _)) hn).mono ?_; rintro e w2 ⟨rfl, hw⟩; subst hw; rw [hhas])
        go_ret
        exact ⟨ret_int (by rw [HT6.out, if_pos (.inl ha)]), HBa.out _⟩
      · have d1 : decide (c.a < 0) = false := decide_eq_false ha
        by_cases hb : 3 ≤ c.a
        · have d2 : decide (3 ≤ c.a) = true := decide_eq_true hb
          go_enter Tryz.func125, Tryz.ntmps125
          go_wp2_with (go_at_call 65; refine (has_any h (k : Int) _ (HK.out _ (HBa.out _)) hn).mono ?_; rintro e w2 ⟨rfl, hw⟩; subst hw; rw [hhas])
          go_ret
          exact ⟨ret_int (by rw [HT6.out, if_pos (.inr hb)]), HBa.out _⟩
        · have d2 : decide (3 ≤ c.a) = false := decide_eq_false hb
          go_enter Tryz.func125, Tryz.ntmps125
          go_wp2_with (go_at_call 65; refine (has_any h (k : Int) _ (HK.out _ (HBa.out _)) hn).mono ?_; rintro e w2 ⟨rfl, hw⟩; subst hw; rw [hhas])
          go_quiet (fail)
          go_wp2
          go_ret
          exact ⟨ret_int (by rw [HT6.out, if_neg (by omega)]), below_drewN (HBa.out _)⟩
    · by_cases h7 : c.kind = 7
      · have HT7 := Lib.hid (show nodeE (ndAt h) c = if y.1.kind = 2 then (if y.1.over ≠ (k : Int) ∨ y.1.ino = 1 then 1 else 0) else 3 from by
          rw [HT.out, if_neg (fun e => h6 e.1), if_pos h7])
        rw [h7]
        clear h6 h7
        by_cases hd : y.1.kind = 2
        · have b1 : (y.1.kind == 2) = true := by simp [hd]
          have HD := Lib.hid hd
          clear hd
          by_cases ho : y.1.over = (k : Int)
          · have b2 : (y.1.over != (k : Int)) = false := by simp [ho]
            have HO := Lib.hid ho
            by_cases hi : y.1.ino = 1
            · have b3 : (y.1.ino == 1) = true := by simp [hi]
              have HI := Lib.hid hi
              clear hi ho
              go_enter Tryz.func125, Tryz.ntmps125
              go_wp2_with (first | (go_at_call 65; refine (has_any h (k : Int) _ (HK.out _ (HBa.out _)) hn).mono ?_; rintro e w2 ⟨rfl, hw⟩; subst hw; rw [hhas]) | (go_at_call 178; refine (isDir_any h k y _ (HK.out _ (HBa.out _)) HY.out).mono ?_; rintro e w2 ⟨rfl, hw⟩; subst hw; rw [b1]))
              go_quiet (first | (go_at_call 59; refine Calls.quiet_of_same (same_symm (over_any h k y _ (HK.out _ (below_drewN (HBa.out _))) HY.out))) | (go_at_call 90; refine Calls.quiet_of_same (same_symm (isFirst_any h k y _ (HK.out _ (below_drewN (HBa.out _))) HY.out))))
              go_wp2
              go_ret
              exact ⟨ret_int (by rw [HT7.out, if_pos HD.out, if_pos (.inr HI.out)]), below_drewN (HBa.out _)⟩
            · have b3 : (y.1.ino == 1) = false := by simp [hi]
              have HI := Lib.hid hi
              clear hi ho
              go_enter Tryz.func125, Tryz.ntmps125
              go_wp2_with (first | (go_at_call 65; refine (has_any h (k : Int) _ (HK.out _ (HBa.out _)) hn).mono ?_; rintro e w2 ⟨rfl, hw⟩; subst hw; rw [hhas]) | (go_at_call 178; refine (isDir_any h k y _ (HK.out _ (HBa.out _)) HY.out).mono ?_; rintro e w2 ⟨rfl, hw⟩; subst hw; rw [b1]))
              go_quiet (first | (go_at_call 59; refine Calls.quiet_of_same (same_symm (over_any h k y _ (HK.out _ (below_drewN (HBa.out _))) HY.out))) | (go_at_call 90; refine Calls.quiet_of_same (same_symm (isFirst_any h k y _ (HK.out _ (below_drewN (HBa.out _))) HY.out))))
              go_wp2
              go_ret
              exact ⟨ret_int (by rw [HT7.out, if_pos HD.out, if_neg (fun e => e.elim (fun q => q HO.out) HI.out)]), below_drewN (HBa.out _)⟩
          · have b2 : (y.1.over != (k : Int)) = true := by simp [ho]
            have HO := Lib.hid ho
            clear ho
            go_enter Tryz.func125, Tryz.ntmps125
            go_wp2_with (first | (go_at_call 65; refine (has_any h (k : Int) _ (HK.out _ (HBa.out _)) hn).mono ?_; rintro e w2 ⟨rfl, hw⟩; subst hw; rw [hhas]) | (go_at_call 178; refine (isDir_any h k y _ (HK.out _ (HBa.out _)) HY.out).mono ?_; rintro e w2 ⟨rfl, hw⟩; subst hw; rw [b1]))
            go_quiet (first | (go_at_call 59; refine Calls.quiet_of_same (same_symm (over_any h k y _ (HK.out _ (below_drewN (HBa.out _))) HY.out))) | (go_at_call 90; refine Calls.quiet_of_same (same_symm (isFirst_any h k y _ (HK.out _ (below_drewN (HBa.out _))) HY.out))))
            go_wp2
            go_ret
            exact ⟨ret_int (by rw [HT7.out, if_pos HD.out, if_pos (.inl HO.out)]), below_drewN (HBa.out _)⟩
        · have b1 : (y.1.kind == 2) = false := by simp [hd]
          have HD := Lib.hid hd
          clear hd
          go_enter Tryz.func125, Tryz.ntmps125
          go_wp2_with (first | (go_at_call 65; refine (has_any h (k : Int) _ (HK.out _ (HBa.out _)) hn).mono ?_; rintro e w2 ⟨rfl, hw⟩; subst hw; rw [hhas]) | (go_at_call 178; refine (isDir_any h k y _ (HK.out _ (HBa.out _)) HY.out).mono ?_; rintro e w2 ⟨rfl, hw⟩; subst hw; rw [b1]))
          go_ret
          exact ⟨ret_int (by rw [HT7.out, if_neg HD.out]), HBa.out _⟩
      · have HT8 := Lib.hid (show nodeE (ndAt h) c = 0 from by
          rw [HT.out, if_neg (fun e => h6 e.1), if_neg h7])
        have b6 : (c.kind == 6) = false := by simp [h6]
        have b7 : (c.kind == 7) = false := by simp [h7]
        clear h6 h7
        go_enter Tryz.func125, Tryz.ntmps125
        go_wp2_with (first | (go_at_call 65; refine (has_any h (k : Int) _ (HK.out _ (HBa.out _)) hn).mono ?_; rintro e w2 ⟨rfl, hw⟩; subst hw; rw [hhas]) | (go_at_call 178; refine (isDir_any h k y _ (HK.out _ (HBa.out _)) HY.out).mono ?_; rintro e w2 ⟨rfl, hw⟩; subst hw; rw [b1]))
        go_quiet (fail)
        go_wp2
        go_ret
        exact ⟨ret_int HT8.out.symm, below_drewN (HBa.out _)⟩
end Go.Proofs.YtknfhphhcnbndaaGreatDoor.V
