/-
  What is wrong with a change, as the program tells it of one more name, and of a node.
  Conditions: each fact's own.
-/
import Derived.Test.YtfhagjnlliafiaaGreatDoorKVBuild
import Derived.Deep.QuietTactic
import Derived.BigQuiet
import Derived.Test.YtfhagjnlliafiaaGreatDoorKVGood
set_option linter.unusedVariables false
set_option maxHeartbeats 8000000
set_option maxRecDepth 100000
namespace Go.Proofs.YtfhagjnlliafiaaGreatDoor.V
open Go.RowKit
def ndAt (h : Fsh) (i : Int) : Option Nd := if 0 ≤ i ∧ i < (h.X.length : Int) then (h.X[i.toNat]?).map Prod.fst else none
theorem ndAt_some {h : Fsh} {i : Int} {n : Nd} (hn : ndAt h i = some n) : ∃ (k : Nat) (x : Nd × Value), i = (k : Int) ∧ h.X[k]? = some x ∧ x.1 = n ∧ hasB h i = true := by
  unfold ndAt at hn
  split at hn
  · rename_i hh
    obtain ⟨x, hx, hxn⟩ := Option.map_eq_some_iff.1 hn
    exact ⟨i.toNat, x, by omega, hx, hxn, by simp [hasB, hh]⟩
  · cases hn
theorem ndAt_none {h : Fsh} {i : Int} (hn : ndAt h i = none) : hasB h i = false := by
  unfold ndAt at hn
  split at hn
  · rename_i hh
    have : i.toNat < h.X.length := by omega
    rw [List.getElem?_eq_getElem this] at hn
    cases hn
  · rename_i hh
    simpa [hasB] using hh
theorem below_drewN {B n : Nat} {w w' : World} (hb : Below B w w') : Below B w (w'.drewN n) := ⟨hb.os, hb.tape, hb.output, hb.size, hb.block⟩
def shareE (M : Int → Option Nd) (c : Chg) (d : Int) : Int :=
  match M c.to with
  | none => 2
  | some y => if y.kind = 2 then 1 else if y.dev ≠ d then 1 else 0
theorem share_any (h : Fsh) (i : Nat) (x : Nd × Value) (c : Chg) (w : World) (H : Fs h w) (hi : c.at_ = (i : Int)) (hx : h.X[i]? = some x) :
    Calls Tryz.prog 94 #[.pointer (some ⟨h.p, 0, none⟩), chgV c] w fun e w' => e = .returned (.int .i64 (shareE (ndAt h) c x.1.dev)) ∧ Below w.heap.size w w' := by
  have hil : i < h.X.length := (List.getElem?_eq_some_iff.1 hx).1
  obtain ⟨g, cap, hv, _, _⟩ := H.slice (by omega)
  have hp : h.p < w.heap.size := H.lt (.inl rfl)
  have hgl : g < w.heap.size := H.lt (.inr (.inl (by rw [hv]; rfl)))
  have HK := Lib.hid (show ∀ W, Below w.heap.size w W → Fs h W from fun W hb => H.keep hb)
  have HBa := Lib.hid (show ∀ o, Below w.heap.size w (w.alloc o) from fun o => (Below.refl _ _).alloc (Nat.le_refl _) _)
  have c0 : w.cell? ⟨h.p, 0, none⟩ = some (.slice (some ⟨g, 0, none⟩) h.X.length cap) := by rw [← hv]; exact H.cell0
  have c0a : ∀ o, (w.alloc o).cell? ⟨h.p, 0, none⟩ = some (.slice (some ⟨g, 0, none⟩) h.X.length cap) := fun o => (World.cell?_alloc_past _ _ _ hp).trans c0
  have d0 : w.cell? ⟨g, i * 17, none⟩ = some (.int .i64 x.1.dev) := H.at_node hv hx (k := 0) (by omega) rfl
  have d0a : ∀ o, (w.alloc o).cell? ⟨g, i * 17, none⟩ = some (.int .i64 x.1.dev) := fun o => (World.cell?_alloc_past _ _ _ hgl).trans d0
  have HH := Lib.hid H
  have HV := Lib.hid hv
  cases hto : ndAt h c.to with
  | none =>
    have hno := ndAt_none hto
    have HT := Lib.hid (show shareE (ndAt h) c x.1.dev = 2 from by unfold shareE; rw [hto])
    clear hto hv H hx c0 c0a d0 d0a
    unfold chgV
    rw [hi]
    go_enter Tryz.func94, Tryz.ntmps94
    go_wp2_with (go_at_call 75; refine (has_any h c.to _ (HK.out _ (HBa.out _)) (by omega)).mono ?_; rintro e w2 ⟨rfl, hw⟩; subst hw; rw [hno])
    go_ret
    exact ⟨ret_int HT.out.symm, HBa.out _⟩
  | some n =>
    obtain ⟨k, y, hk, hy, hyn, hhas⟩ := ndAt_some hto
    subst hyn
    have e0 : w.cell? ⟨g, k * 17, none⟩ = some (.int .i64 y.1.dev) := H.at_node hv hy (k := 0) (by omega) rfl
    have e0a : ∀ o, (w.alloc o).cell? ⟨g, k * 17, none⟩ = some (.int .i64 y.1.dev) := fun o => (World.cell?_alloc_past _ _ _ hgl).trans e0
    have hkl : k < h.X.length := (List.getElem?_eq_some_iff.1 hy).1
    have HT := Lib.hid (show shareE (ndAt h) c x.1.dev = if y.1.kind = 2 then 1 else if y.1.dev ≠ x.1.dev then 1 else 0 from by unfold shareE; rw [hto])
    have HY := Lib.hid hy
    rw [hk] at hhas
    clear hto hv H hx hy
    unfold chgV
    rw [hi, hk]
    clear hk hi
    by_cases hd : y.1.kind = 2
    · have b1 : (y.1.kind == 2) = true := by simp [hd]
      have HD := Lib.hid hd
      clear hd
      go_enter Tryz.func94, Tryz.ntmps94
      go_wp2_with (first
        | (go_at_call 75; refine (has_any h (k : Int) _ (HK.out _ (HBa.out _)) (by omega)).mono ?_; rintro e w2 ⟨rfl, hw⟩; subst hw; rw [hhas])
        | (go_at_call 91; refine (isDir_any h k y _ (HK.out _ (HBa.out _)) HY.out).mono ?_; rintro e w2 ⟨rfl, hw⟩; subst hw; rw [b1]))
      go_ret
      exact ⟨ret_int (by rw [HT.out, if_pos HD.out]), HBa.out _⟩
    · have b1 : (y.1.kind == 2) = false := by simp [hd]
      have HD := Lib.hid hd
      clear hd
      go_enter Tryz.func94, Tryz.ntmps94
      go_wp2_with (first
        | (go_at_call 75; refine (has_any h (k : Int) _ (HK.out _ (HBa.out _)) (by omega)).mono ?_; rintro e w2 ⟨rfl, hw⟩; subst hw; rw [hhas])
        | (go_at_call 91; refine (isDir_any h k y _ (HK.out _ (HBa.out _)) HY.out).mono ?_; rintro e w2 ⟨rfl, hw⟩; subst hw; rw [b1]))
      go_quiet (fail)
      go_wp2
      all_goals go_ret
      · have hd : (y.1.dev != x.1.dev) = true := by assumption
        exact ⟨ret_int (by rw [HT.out, if_neg HD.out, if_pos (by simpa using hd)]), below_drewN (HBa.out _)⟩
      · have hd : (y.1.dev != x.1.dev) = false := by assumption
        exact ⟨ret_int (by rw [HT.out, if_neg HD.out, if_neg (by simpa using hd)]), below_drewN (HBa.out _)⟩
def nodeE (M : Int → Option Nd) (c : Chg) : Int :=
  match M c.to with
  | none => 2
  | some y => if c.kind = 6 ∧ (c.a < 0 ∨ 3 ≤ c.a) then 1 else if c.kind = 7 then (if y.kind = 2 then (if y.over ≠ c.to ∨ y.ino = 1 then 1 else 0) else 3) else 0
theorem same_symm {P : Program} {f : FuncId} {a : Array Value} {w : World} {v : Value} (h : Calls P f a w fun e w' => e = .returned v ∧ w = w') : Calls P f a w fun e w' => e = .returned v ∧ w' = w := h.mono fun e w' ⟨p, q⟩ => ⟨p, q.symm⟩
theorem node_any (h : Fsh) (c : Chg) (w : World) (H : Fs h w) (hn : 0 < h.X.length) :
    Calls Tryz.prog 61 #[.pointer (some ⟨h.p, 0, none⟩), chgV c] w fun e w' => e = .returned (.int .i64 (nodeE (ndAt h) c)) ∧ Below w.heap.size w w' := by
  have HK := Lib.hid (show ∀ W, Below w.heap.size w W → Fs h W from fun W hb => H.keep hb)
  have HBa := Lib.hid (show ∀ o, Below w.heap.size w (w.alloc o) from fun o => (Below.refl _ _).alloc (Nat.le_refl _) _)
  have HH := Lib.hid H
  cases hto : ndAt h c.to with
  | none =>
    have hno := ndAt_none hto
    have HT := Lib.hid (show nodeE (ndAt h) c = 2 from by unfold nodeE; rw [hto])
    clear hto H
    unfold chgV
    go_enter Tryz.func61, Tryz.ntmps61
    go_wp2_with (go_at_call 75; refine (has_any h c.to _ (HK.out _ (HBa.out _)) hn).mono ?_; rintro e w2 ⟨rfl, hw⟩; subst hw; rw [hno])
    go_ret
    exact ⟨ret_int HT.out.symm, HBa.out _⟩
  | some n =>
    obtain ⟨k, y, hk, hy, hyn, hhas⟩ := ndAt_some hto
    subst hyn
    have HT := Lib.hid (show nodeE (ndAt h) c = if c.kind = 6 ∧ (c.a < 0 ∨ 3 ≤ c.a) then 1 else if c.kind = 7 then (if y.1.kind = 2 then (if y.1.over ≠ (k : Int) ∨ y.1.ino = 1 then 1 else 0) else 3) else 0 from by unfold nodeE; rw [hto, hk])
    have HY := Lib.hid hy
    rw [hk] at hhas
    clear hto H hy
    unfold chgV
    rw [hk]
    clear hk
    by_cases h6 : c.kind = 6
    · have HT6 := Lib.hid (show nodeE (ndAt h) c = if c.a < 0 ∨ 3 ≤ c.a then 1 else 0 from by
        rw [HT.out]
        by_cases q : c.a < 0 ∨ 3 ≤ c.a
        · rw [if_pos ⟨h6, q⟩, if_pos q]
        · rw [if_neg (fun e => q e.2), if_neg q, if_neg (by omega)])
      rw [h6]
      clear h6
      by_cases ha : c.a < 0
      · have d1 : decide (c.a < 0) = true := decide_eq_true ha
        go_enter Tryz.func61, Tryz.ntmps61
        go_wp2_with (go_at_call 75; refine (has_any h (k : Int) _ (HK.out _ (HBa.out _)) hn).mono ?_; rintro e w2 ⟨rfl, hw⟩; subst hw; rw [hhas])
        go_ret
        exact ⟨ret_int (by rw [HT6.out, if_pos (.inl ha)]), HBa.out _⟩
      · have d1 : decide (c.a < 0) = false := decide_eq_false ha
        by_cases hb : 3 ≤ c.a
        · have d2 : decide (3 ≤ c.a) = true := decide_eq_true hb
          go_enter Tryz.func61, Tryz.ntmps61
          go_wp2_with (go_at_call 75; refine (has_any h (k : Int) _ (HK.out _ (HBa.out _)) hn).mono ?_; rintro e w2 ⟨rfl, hw⟩; subst hw; rw [hhas])
          go_ret
          exact ⟨ret_int (by rw [HT6.out, if_pos (.inr hb)]), HBa.out _⟩
        · have d2 : decide (3 ≤ c.a) = false := decide_eq_false hb
          go_enter Tryz.func61, Tryz.ntmps61
          go_wp2_with (go_at_call 75; refine (has_any h (k : Int) _ (HK.out _ (HBa.out _)) hn).mono ?_; rintro e w2 ⟨rfl, hw⟩; subst hw; rw [hhas])
          go_quiet (fail)
          go_wp2
          go_ret
          exact ⟨ret_int (by rw [HT6.out, if_neg (by omega)]), below_drewN (HBa.out _)⟩
    · by_cases h7 : c.kind = 7
      · have HT7 := Lib.hid (show nodeE (ndAt h) c = if y.1.kind = 2 then (if y.1.over ≠ (k : Int) ∨ y.1.ino = 1 then 1 else 0) else 3 from by
          rw [HT.out, if_neg (fun e => h6 e.1), if_pos h7])
        rw [h7]
        clear h6 h7
        by_cases hd : y.1.kind = 2
        · have b1 : (y.1.kind == 2) = true := by simp [hd]
          have HD := Lib.hid hd
          clear hd
          by_cases ho : y.1.over = (k : Int)
          · have b2 : (y.1.over != (k : Int)) = false := by simp [ho]
            have HO := Lib.hid ho
            by_cases hi : y.1.ino = 1
            · have b3 : (y.1.ino == 1) = true := by simp [hi]
              have HI := Lib.hid hi
              clear hi ho
              go_enter Tryz.func61, Tryz.ntmps61
              go_wp2_with (first | (go_at_call 75; refine (has_any h (k : Int) _ (HK.out _ (HBa.out _)) hn).mono ?_; rintro e w2 ⟨rfl, hw⟩; subst hw; rw [hhas]) | (go_at_call 91; refine (isDir_any h k y _ (HK.out _ (HBa.out _)) HY.out).mono ?_; rintro e w2 ⟨rfl, hw⟩; subst hw; rw [b1]))
              go_quiet (first | (go_at_call 45; refine Calls.quiet_of_same (same_symm (over_any h k y _ (HK.out _ (below_drewN (HBa.out _))) HY.out))) | (go_at_call 96; refine Calls.quiet_of_same (same_symm (isFirst_any h k y _ (HK.out _ (below_drewN (HBa.out _))) HY.out))))
              go_wp2
              go_ret
              exact ⟨ret_int (by rw [HT7.out, if_pos HD.out, if_pos (.inr HI.out)]), below_drewN (HBa.out _)⟩
            · have b3 : (y.1.ino == 1) = false := by simp [hi]
              have HI := Lib.hid hi
              clear hi ho
              go_enter Tryz.func61, Tryz.ntmps61
              go_wp2_with (first | (go_at_call 75; refine (has_any h (k : Int) _ (HK.out _ (HBa.out _)) hn).mono ?_; rintro e w2 ⟨rfl, hw⟩; subst hw; rw [hhas]) | (go_at_call 91; refine (isDir_any h k y _ (HK.out _ (HBa.out _)) HY.out).mono ?_; rintro e w2 ⟨rfl, hw⟩; subst hw; rw [b1]))
              go_quiet (first | (go_at_call 45; refine Calls.quiet_of_same (same_symm (over_any h k y _ (HK.out _ (below_drewN (HBa.out _))) HY.out))) | (go_at_call 96; refine Calls.quiet_of_same (same_symm (isFirst_any h k y _ (HK.out _ (below_drewN (HBa.out _))) HY.out))))
              go_wp2
              go_ret
              exact ⟨ret_int (by rw [HT7.out, if_pos HD.out, if_neg (fun e => e.elim (fun q => q HO.out) HI.out)]), below_drewN (HBa.out _)⟩
          · have b2 : (y.1.over != (k : Int)) = true := by simp [ho]
            have HO := Lib.hid ho
            clear ho
            go_enter Tryz.func61, Tryz.ntmps61
            go_wp2_with (first | (go_at_call 75; refine (has_any h (k : Int) _ (HK.out _ (HBa.out _)) hn).mono ?_; rintro e w2 ⟨rfl, hw⟩; subst hw; rw [hhas]) | (go_at_call 91; refine (isDir_any h k y _ (HK.out _ (HBa.out _)) HY.out).mono ?_; rintro e w2 ⟨rfl, hw⟩; subst hw; rw [b1]))
            go_quiet (first | (go_at_call 45; refine Calls.quiet_of_same (same_symm (over_any h k y _ (HK.out _ (below_drewN (HBa.out _))) HY.out))) | (go_at_call 96; refine Calls.quiet_of_same (same_symm (isFirst_any h k y _ (HK.out _ (below_drewN (HBa.out _))) HY.out))))
            go_wp2
            go_ret
            exact ⟨ret_int (by rw [HT7.out, if_pos HD.out, if_pos (.inl HO.out)]), below_drewN (HBa.out _)⟩
        · have b1 : (y.1.kind == 2) = false := by simp [hd]
          have HD := Lib.hid hd
          clear hd
          go_enter Tryz.func61, Tryz.ntmps61
          go_wp2_with (first | (go_at_call 75; refine (has_any h (k : Int) _ (HK.out _ (HBa.out _)) hn).mono ?_; rintro e w2 ⟨rfl, hw⟩; subst hw; rw [hhas]) | (go_at_call 91; refine (isDir_any h k y _ (HK.out _ (HBa.out _)) HY.out).mono ?_; rintro e w2 ⟨rfl, hw⟩; subst hw; rw [b1]))
          go_ret
          exact ⟨ret_int (by rw [HT7.out, if_neg HD.out]), HBa.out _⟩
      · have HT8 := Lib.hid (show nodeE (ndAt h) c = 0 from by
          rw [HT.out, if_neg (fun e => h6 e.1), if_neg h7])
        have b6 : (c.kind == 6) = false := by simp [h6]
        have b7 : (c.kind == 7) = false := by simp [h7]
        clear h6 h7
        go_enter Tryz.func61, Tryz.ntmps61
        go_wp2_with (first | (go_at_call 75; refine (has_any h (k : Int) _ (HK.out _ (HBa.out _)) hn).mono ?_; rintro e w2 ⟨rfl, hw⟩; subst hw; rw [hhas]) | (go_at_call 91; refine (isDir_any h k y _ (HK.out _ (HBa.out _)) HY.out).mono ?_; rintro e w2 ⟨rfl, hw⟩; subst hw; rw [b1]))
        go_quiet (fail)
        go_wp2
        go_ret
        exact ⟨ret_int HT8.out.symm, below_drewN (HBa.out _)⟩
end Go.Proofs.YtfhagjnlliafiaaGreatDoor.V
namespace Go.Proofs.YtfhagjnlliafiaaGreatDoor.V
open Go.RowKit
def chgBox (c : Chg) : Obj := .cells #[.int .i64 c.kind, .int .i64 c.at_, .int .i64 c.to, .string c.name, .string c.text, .int .i64 c.a, .int .i64 c.b, .int .i64 c.n] 56
theorem box_keep {w w2 : World} {o : Obj} (hb : Below (w.alloc o).heap.size (w.alloc o) w2) : w2.heap[w.heap.size]? = some o := (hb.block _ (by simp)).trans (heap_alloc_new _ _)
theorem box_keep2 {w2 w3 : World} {k : Nat} {o : Obj} (h : w2.heap[k]? = some o) (hb : Below w2.heap.size w2 w3) : w3.heap[k]? = some o := (hb.block _ (heap_lt h)).trans h
theorem chg_cells {w : World} {k : Nat} {c : Chg} (h : w.heap[k]? = some (chgBox c)) :
    w.cell? ⟨k, 0, none⟩ = some (.int .i64 c.kind) ∧ w.cell? ⟨k, 1, none⟩ = some (.int .i64 c.at_) ∧ w.cell? ⟨k, 2, none⟩ = some (.int .i64 c.to) ∧ w.cell? ⟨k, 3, none⟩ = some (.string c.name) ∧ w.cell? ⟨k, 4, none⟩ = some (.string c.text) ∧ w.cell? ⟨k, 5, none⟩ = some (.int .i64 c.a) ∧ w.cell? ⟨k, 6, none⟩ = some (.int .i64 c.b) ∧ w.cell? ⟨k, 7, none⟩ = some (.int .i64 c.n) := by
  unfold chgBox at h
  refine ⟨?_, ?_, ?_, ?_, ?_, ?_, ?_, ?_⟩
  all_goals (rw [cell_of_row _ _ _ _ _ _ h]; rfl)
def entryE (M : Int → Option Nd) (c : Chg) : Int :=
  match M c.at_ with
  | none => 2
  | some x => if x.kind = 2 then (if goodB c.name = true then (if hasEnt c.name x.ents = true then 4 else if c.kind = 2 then shareE M c x.dev else if c.kind = 1 ∧ c.n < 0 then 1 else if c.kind = 3 ∧ textB c.text = false then 1 else 0) else 1) else 3
theorem entry_any (h : Fsh) (c : Chg) (w : World) (H : Fs h w) (hn : 0 < h.X.length) (hE : ∀ x ∈ h.X, x.1.ents.length ≤ 1000000) :
    Calls Tryz.prog 60 #[.pointer (some ⟨h.p, 0, none⟩), chgV c] w fun e w' => e = .returned (.int .i64 (entryE (ndAt h) c)) ∧ Below w.heap.size w w' := by
  have HK := Lib.hid (show ∀ W, Below w.heap.size w W → Fs h W from fun W hb => H.keep hb)
  have HBa := Lib.hid (show ∀ o, Below w.heap.size w (w.alloc o) from fun o => (Below.refl _ _).alloc (Nat.le_refl _) _)
  cases hto : ndAt h c.at_ with
  | none =>
    have hno := ndAt_none hto
    have HT := Lib.hid (show entryE (ndAt h) c = 2 from by unfold entryE; rw [hto])
    clear hto H hE
    unfold chgV
    go_enter Tryz.func60, Tryz.ntmps60
    go_wp2_with (go_at_call 75; refine (has_any h c.at_ _ (HK.out _ (HBa.out _)) hn).mono ?_; rintro e w2 ⟨rfl, hw⟩; subst hw; rw [hno])
    go_ret
    exact ⟨ret_int HT.out.symm, HBa.out _⟩
  | some n =>
    obtain ⟨k, y, hk, hy, hyn, hhas⟩ := ndAt_some hto
    subst hyn
    have HT := Lib.hid (show entryE (ndAt h) c = if y.1.kind = 2 then (if goodB c.name = true then (if hasEnt c.name y.1.ents = true then 4 else if c.kind = 2 then shareE (ndAt h) c y.1.dev else if c.kind = 1 ∧ c.n < 0 then 1 else if c.kind = 3 ∧ textB c.text = false then 1 else 0) else 1) else 3 from by unfold entryE; rw [hto])
    have HY := Lib.hid hy
    have HYE := Lib.hid (hE y (List.mem_of_getElem? hy))
    have HCk := Lib.hid hk
    rw [hk] at hhas
    clear hto H hy hE
    obtain ⟨c', hc'⟩ : ∃ c', c = c' := ⟨c, rfl⟩
    have HBx := Lib.hid (show ∀ W : World, W.heap[w.heap.size]? = some (.cells #[.int .i64 c.kind, .int .i64 (k : Int), .int .i64 c.to, .string c.name, .string c.text, .int .i64 c.a, .int .i64 c.b, .int .i64 c.n] 56) → W.cell? ⟨w.heap.size, 0, none⟩ = some (.int .i64 c.kind) ∧ W.cell? ⟨w.heap.size, 1, none⟩ = some (.int .i64 (k : Int)) ∧ W.cell? ⟨w.heap.size, 2, none⟩ = some (.int .i64 c.to) ∧ W.cell? ⟨w.heap.size, 3, none⟩ = some (.string c.name) ∧ W.cell? ⟨w.heap.size, 4, none⟩ = some (.string c.text) ∧ W.cell? ⟨w.heap.size, 5, none⟩ = some (.int .i64 c.a) ∧ W.cell? ⟨w.heap.size, 6, none⟩ = some (.int .i64 c.b) ∧ W.cell? ⟨w.heap.size, 7, none⟩ = some (.int .i64 c.n) from fun W hW => by
      have e : (.cells #[.int .i64 c.kind, .int .i64 (k : Int), .int .i64 c.to, .string c.name, .string c.text, .int .i64 c.a, .int .i64 c.b, .int .i64 c.n] 56 : Obj) = chgBox c := by unfold chgBox; rw [hk]
      rw [e] at hW
      rw [← hk]
      exact chg_cells hW)
    have HCV := Lib.hid (show chgV c = .agg #[.int .i64 c.kind, .int .i64 (k : Int), .int .i64 c.to, .string c.name, .string c.text, .int .i64 c.a, .int .i64 c.b, .int .i64 c.n] from by unfold chgV; rw [hk])
    rw [HCV.out]
    clear hc' hk
    by_cases hd : y.1.kind = 2
    · have b1 : (y.1.kind == 2) = true := by simp [hd]
      have HD := Lib.hid hd
      clear hd
      cases g1 : goodB c.name with
      | false =>
        have HR := Lib.hid (show entryE (ndAt h) c = 1 from by rw [HT.out, if_pos HD.out, if_neg (by rw [g1]; decide)])
        go_enter Tryz.func60, Tryz.ntmps60
        go_wp2_with (first
          | (go_at_call 75; refine (has_any h (k : Int) _ (HK.out _ (HBa.out _)) hn).mono ?_; rintro e w2 ⟨rfl, hw⟩; subst hw; rw [hhas])
          | (go_at_call 91; refine (isDir_any h k y _ (HK.out _ (HBa.out _)) HY.out).mono ?_; rintro e w2 ⟨rfl, hw⟩; subst hw; rw [b1])
          | (go_at_call 92; refine (good_any c.name _).mono ?_; rintro e w2 ⟨rfl, hb2⟩; rw [g1]; have HB2 := Lib.hid (below_two (HBa.out _) hb2); have HX2 := Lib.hid (box_keep hb2); obtain ⟨q0, q1, q2, q3, q4, q5, q6, q7⟩ := HBx.out _ (box_keep hb2); clear hb2)
          | (go_at_call 93; refine (hasEntry_any h k y c.name _ (HK.out _ HB2.out) HY.out HYE.out).mono ?_; rintro e w3 ⟨rfl, hb3⟩; rw [e1]; have HB3 := Lib.hid (below_two HB2.out hb3); have HX3 := Lib.hid (box_keep2 HX2.out hb3); obtain ⟨p0, p1, p2, p3, p4, p5, p6, p7⟩ := HBx.out _ (box_keep2 HX2.out hb3); clear hb3)
          | (go_at_call 94; rw [← HCV.out]; refine (share_any h k y c _ (HK.out _ HB3.out) HCk.out HY.out).mono ?_; rintro e w4 ⟨rfl, hb4⟩; have HB4 := Lib.hid (below_two HB3.out hb4); clear hb4)
          | (go_at_call 95; refine (goodText_any c.text _).mono ?_; rintro e w4 ⟨rfl, hw⟩; subst hw; rw [tx]))
        go_ret
        exact ⟨ret_int HR.out.symm, HB2.out⟩
      | true =>
        have HG := Lib.hid g1
        cases e1 : hasEnt c.name y.1.ents with
        | true =>
          have HR := Lib.hid (show entryE (ndAt h) c = 4 from by rw [HT.out, if_pos HD.out, if_pos HG.out, if_pos e1])
          go_enter Tryz.func60, Tryz.ntmps60
          go_wp2_with (first
            | (go_at_call 75; refine (has_any h (k : Int) _ (HK.out _ (HBa.out _)) hn).mono ?_; rintro e w2 ⟨rfl, hw⟩; subst hw; rw [hhas])
            | (go_at_call 91; refine (isDir_any h k y _ (HK.out _ (HBa.out _)) HY.out).mono ?_; rintro e w2 ⟨rfl, hw⟩; subst hw; rw [b1])
            | (go_at_call 92; refine (good_any c.name _).mono ?_; rintro e w2 ⟨rfl, hb2⟩; rw [g1]; have HB2 := Lib.hid (below_two (HBa.out _) hb2); have HX2 := Lib.hid (box_keep hb2); obtain ⟨q0, q1, q2, q3, q4, q5, q6, q7⟩ := HBx.out _ (box_keep hb2); clear hb2)
            | (go_at_call 93; refine (hasEntry_any h k y c.name _ (HK.out _ HB2.out) HY.out HYE.out).mono ?_; rintro e w3 ⟨rfl, hb3⟩; rw [e1]; have HB3 := Lib.hid (below_two HB2.out hb3); have HX3 := Lib.hid (box_keep2 HX2.out hb3); obtain ⟨p0, p1, p2, p3, p4, p5, p6, p7⟩ := HBx.out _ (box_keep2 HX2.out hb3); clear hb3)
            | (go_at_call 94; rw [← HCV.out]; refine (share_any h k y c _ (HK.out _ HB3.out) HCk.out HY.out).mono ?_; rintro e w4 ⟨rfl, hb4⟩; have HB4 := Lib.hid (below_two HB3.out hb4); clear hb4)
            | (go_at_call 95; refine (goodText_any c.text _).mono ?_; rintro e w4 ⟨rfl, hw⟩; subst hw; rw [tx]))
          go_ret
          exact ⟨ret_int HR.out.symm, HB3.out⟩
        | false =>
          have HT2 := Lib.hid (show entryE (ndAt h) c = if c.kind = 2 then shareE (ndAt h) c y.1.dev else if c.kind = 1 ∧ c.n < 0 then 1 else if c.kind = 3 ∧ textB c.text = false then 1 else 0 from by rw [HT.out, if_pos HD.out, if_pos HG.out, if_neg (by rw [e1]; decide)])
          by_cases k2 : c.kind = 2
          · have HR := Lib.hid (show entryE (ndAt h) c = shareE (ndAt h) c y.1.dev from by rw [HT2.out, if_pos k2])
            have HK2 := Lib.hid k2
            have t2 : (c.kind == 2) = true := by simp [k2]
            clear k2
            go_enter Tryz.func60, Tryz.ntmps60
            go_wp2_with (first
              | (go_at_call 75; refine (has_any h (k : Int) _ (HK.out _ (HBa.out _)) hn).mono ?_; rintro e w2 ⟨rfl, hw⟩; subst hw; rw [hhas])
              | (go_at_call 91; refine (isDir_any h k y _ (HK.out _ (HBa.out _)) HY.out).mono ?_; rintro e w2 ⟨rfl, hw⟩; subst hw; rw [b1])
              | (go_at_call 92; refine (good_any c.name _).mono ?_; rintro e w2 ⟨rfl, hb2⟩; rw [g1]; have HB2 := Lib.hid (below_two (HBa.out _) hb2); have HX2 := Lib.hid (box_keep hb2); obtain ⟨q0, q1, q2, q3, q4, q5, q6, q7⟩ := HBx.out _ (box_keep hb2); clear hb2)
              | (go_at_call 93; refine (hasEntry_any h k y c.name _ (HK.out _ HB2.out) HY.out HYE.out).mono ?_; rintro e w3 ⟨rfl, hb3⟩; rw [e1]; have HB3 := Lib.hid (below_two HB2.out hb3); have HX3 := Lib.hid (box_keep2 HX2.out hb3); obtain ⟨p0, p1, p2, p3, p4, p5, p6, p7⟩ := HBx.out _ (box_keep2 HX2.out hb3); clear hb3)
              | (go_at_call 94; rw [← HCV.out]; refine (share_any h k y c _ (HK.out _ HB3.out) HCk.out HY.out).mono ?_; rintro e w4 ⟨rfl, hb4⟩; have HB4 := Lib.hid (below_two HB3.out hb4); clear hb4)
              | (go_at_call 95; refine (goodText_any c.text _).mono ?_; rintro e w4 ⟨rfl, hw⟩; subst hw; rw [tx]))
            go_ret
            exact ⟨ret_int HR.out.symm, HB4.out⟩
          · have t2 : (c.kind == 2) = false := by simp [k2]
            have HT3 := Lib.hid (show entryE (ndAt h) c = if c.kind = 1 ∧ c.n < 0 then 1 else if c.kind = 3 ∧ textB c.text = false then 1 else 0 from by rw [HT2.out, if_neg k2])
            clear k2
            by_cases k1 : c.kind = 1
            · have t1 : (c.kind == 1) = true := by simp [k1]
              have t3 : (c.kind == 3) = false := by simp [k1]
              by_cases kn : c.n < 0
              · have HR := Lib.hid (show entryE (ndAt h) c = 1 from by rw [HT3.out, if_pos ⟨k1, kn⟩])
                clear k1
                go_enter Tryz.func60, Tryz.ntmps60
                go_wp2_with (first
                  | (go_at_call 75; refine (has_any h (k : Int) _ (HK.out _ (HBa.out _)) hn).mono ?_; rintro e w2 ⟨rfl, hw⟩; subst hw; rw [hhas])
                  | (go_at_call 91; refine (isDir_any h k y _ (HK.out _ (HBa.out _)) HY.out).mono ?_; rintro e w2 ⟨rfl, hw⟩; subst hw; rw [b1])
                  | (go_at_call 92; refine (good_any c.name _).mono ?_; rintro e w2 ⟨rfl, hb2⟩; rw [g1]; have HB2 := Lib.hid (below_two (HBa.out _) hb2); have HX2 := Lib.hid (box_keep hb2); obtain ⟨q0, q1, q2, q3, q4, q5, q6, q7⟩ := HBx.out _ (box_keep hb2); clear hb2)
                  | (go_at_call 93; refine (hasEntry_any h k y c.name _ (HK.out _ HB2.out) HY.out HYE.out).mono ?_; rintro e w3 ⟨rfl, hb3⟩; rw [e1]; have HB3 := Lib.hid (below_two HB2.out hb3); have HX3 := Lib.hid (box_keep2 HX2.out hb3); obtain ⟨p0, p1, p2, p3, p4, p5, p6, p7⟩ := HBx.out _ (box_keep2 HX2.out hb3); clear hb3)
                  | (go_at_call 94; rw [← HCV.out]; refine (share_any h k y c _ (HK.out _ HB3.out) HCk.out HY.out).mono ?_; rintro e w4 ⟨rfl, hb4⟩; have HB4 := Lib.hid (below_two HB3.out hb4); clear hb4)
                  | (go_at_call 95; refine (goodText_any c.text _).mono ?_; rintro e w4 ⟨rfl, hw⟩; subst hw; rw [tx]))
                go_ret
                exact ⟨ret_int HR.out.symm, HB3.out⟩
              · have HR := Lib.hid (show entryE (ndAt h) c = 0 from by rw [HT3.out, if_neg (fun e => kn e.2), if_neg (fun e => by rw [k1] at e; cases e.1)])
                clear k1
                go_enter Tryz.func60, Tryz.ntmps60
                go_wp2_with (first
                  | (go_at_call 75; refine (has_any h (k : Int) _ (HK.out _ (HBa.out _)) hn).mono ?_; rintro e w2 ⟨rfl, hw⟩; subst hw; rw [hhas])
                  | (go_at_call 91; refine (isDir_any h k y _ (HK.out _ (HBa.out _)) HY.out).mono ?_; rintro e w2 ⟨rfl, hw⟩; subst hw; rw [b1])
                  | (go_at_call 92; refine (good_any c.name _).mono ?_; rintro e w2 ⟨rfl, hb2⟩; rw [g1]; have HB2 := Lib.hid (below_two (HBa.out _) hb2); have HX2 := Lib.hid (box_keep hb2); obtain ⟨q0, q1, q2, q3, q4, q5, q6, q7⟩ := HBx.out _ (box_keep hb2); clear hb2)
                  | (go_at_call 93; refine (hasEntry_any h k y c.name _ (HK.out _ HB2.out) HY.out HYE.out).mono ?_; rintro e w3 ⟨rfl, hb3⟩; rw [e1]; have HB3 := Lib.hid (below_two HB2.out hb3); have HX3 := Lib.hid (box_keep2 HX2.out hb3); obtain ⟨p0, p1, p2, p3, p4, p5, p6, p7⟩ := HBx.out _ (box_keep2 HX2.out hb3); clear hb3)
                  | (go_at_call 94; rw [← HCV.out]; refine (share_any h k y c _ (HK.out _ HB3.out) HCk.out HY.out).mono ?_; rintro e w4 ⟨rfl, hb4⟩; have HB4 := Lib.hid (below_two HB3.out hb4); clear hb4)
                  | (go_at_call 95; refine (goodText_any c.text _).mono ?_; rintro e w4 ⟨rfl, hw⟩; subst hw; rw [tx]))
                go_ret
                exact ⟨ret_int HR.out.symm, HB3.out⟩
            · have t1 : (c.kind == 1) = false := by simp [k1]
              have HT4 := Lib.hid (show entryE (ndAt h) c = if c.kind = 3 ∧ textB c.text = false then 1 else 0 from by rw [HT3.out, if_neg (fun e => k1 e.1)])
              by_cases k3 : c.kind = 3
              · have t3 : (c.kind == 3) = true := by simp [k3]
                cases tx : textB c.text with
                | false =>
                  have HR := Lib.hid (show entryE (ndAt h) c = 1 from by rw [HT4.out, if_pos ⟨k3, tx⟩])
                  clear k3 k1
                  go_enter Tryz.func60, Tryz.ntmps60
                  go_wp2_with (first
                    | (go_at_call 75; refine (has_any h (k : Int) _ (HK.out _ (HBa.out _)) hn).mono ?_; rintro e w2 ⟨rfl, hw⟩; subst hw; rw [hhas])
                    | (go_at_call 91; refine (isDir_any h k y _ (HK.out _ (HBa.out _)) HY.out).mono ?_; rintro e w2 ⟨rfl, hw⟩; subst hw; rw [b1])
                    | (go_at_call 92; refine (good_any c.name _).mono ?_; rintro e w2 ⟨rfl, hb2⟩; rw [g1]; have HB2 := Lib.hid (below_two (HBa.out _) hb2); have HX2 := Lib.hid (box_keep hb2); obtain ⟨q0, q1, q2, q3, q4, q5, q6, q7⟩ := HBx.out _ (box_keep hb2); clear hb2)
                    | (go_at_call 93; refine (hasEntry_any h k y c.name _ (HK.out _ HB2.out) HY.out HYE.out).mono ?_; rintro e w3 ⟨rfl, hb3⟩; rw [e1]; have HB3 := Lib.hid (below_two HB2.out hb3); have HX3 := Lib.hid (box_keep2 HX2.out hb3); obtain ⟨p0, p1, p2, p3, p4, p5, p6, p7⟩ := HBx.out _ (box_keep2 HX2.out hb3); clear hb3)
                    | (go_at_call 94; rw [← HCV.out]; refine (share_any h k y c _ (HK.out _ HB3.out) HCk.out HY.out).mono ?_; rintro e w4 ⟨rfl, hb4⟩; have HB4 := Lib.hid (below_two HB3.out hb4); clear hb4)
                    | (go_at_call 95; refine (goodText_any c.text _).mono ?_; rintro e w4 ⟨rfl, hw⟩; subst hw; rw [tx]))
                  go_ret
                  exact ⟨ret_int HR.out.symm, HB3.out⟩
                | true =>
                  have HR := Lib.hid (show entryE (ndAt h) c = 0 from by rw [HT4.out, if_neg (fun e => by rw [tx] at e; cases e.2)])
                  clear k3 k1
                  go_enter Tryz.func60, Tryz.ntmps60
                  go_wp2_with (first
                    | (go_at_call 75; refine (has_any h (k : Int) _ (HK.out _ (HBa.out _)) hn).mono ?_; rintro e w2 ⟨rfl, hw⟩; subst hw; rw [hhas])
                    | (go_at_call 91; refine (isDir_any h k y _ (HK.out _ (HBa.out _)) HY.out).mono ?_; rintro e w2 ⟨rfl, hw⟩; subst hw; rw [b1])
                    | (go_at_call 92; refine (good_any c.name _).mono ?_; rintro e w2 ⟨rfl, hb2⟩; rw [g1]; have HB2 := Lib.hid (below_two (HBa.out _) hb2); have HX2 := Lib.hid (box_keep hb2); obtain ⟨q0, q1, q2, q3, q4, q5, q6, q7⟩ := HBx.out _ (box_keep hb2); clear hb2)
                    | (go_at_call 93; refine (hasEntry_any h k y c.name _ (HK.out _ HB2.out) HY.out HYE.out).mono ?_; rintro e w3 ⟨rfl, hb3⟩; rw [e1]; have HB3 := Lib.hid (below_two HB2.out hb3); have HX3 := Lib.hid (box_keep2 HX2.out hb3); obtain ⟨p0, p1, p2, p3, p4, p5, p6, p7⟩ := HBx.out _ (box_keep2 HX2.out hb3); clear hb3)
                    | (go_at_call 94; rw [← HCV.out]; refine (share_any h k y c _ (HK.out _ HB3.out) HCk.out HY.out).mono ?_; rintro e w4 ⟨rfl, hb4⟩; have HB4 := Lib.hid (below_two HB3.out hb4); clear hb4)
                    | (go_at_call 95; refine (goodText_any c.text _).mono ?_; rintro e w4 ⟨rfl, hw⟩; subst hw; rw [tx]))
                  go_ret
                  exact ⟨ret_int HR.out.symm, HB3.out⟩
              · have t3 : (c.kind == 3) = false := by simp [k3]
                have HR := Lib.hid (show entryE (ndAt h) c = 0 from by rw [HT4.out, if_neg (fun e => k3 e.1)])
                go_enter Tryz.func60, Tryz.ntmps60
                go_wp2_with (first
                  | (go_at_call 75; refine (has_any h (k : Int) _ (HK.out _ (HBa.out _)) hn).mono ?_; rintro e w2 ⟨rfl, hw⟩; subst hw; rw [hhas])
                  | (go_at_call 91; refine (isDir_any h k y _ (HK.out _ (HBa.out _)) HY.out).mono ?_; rintro e w2 ⟨rfl, hw⟩; subst hw; rw [b1])
                  | (go_at_call 92; refine (good_any c.name _).mono ?_; rintro e w2 ⟨rfl, hb2⟩; rw [g1]; have HB2 := Lib.hid (below_two (HBa.out _) hb2); have HX2 := Lib.hid (box_keep hb2); obtain ⟨q0, q1, q2, q3, q4, q5, q6, q7⟩ := HBx.out _ (box_keep hb2); clear hb2)
                  | (go_at_call 93; refine (hasEntry_any h k y c.name _ (HK.out _ HB2.out) HY.out HYE.out).mono ?_; rintro e w3 ⟨rfl, hb3⟩; rw [e1]; have HB3 := Lib.hid (below_two HB2.out hb3); have HX3 := Lib.hid (box_keep2 HX2.out hb3); obtain ⟨p0, p1, p2, p3, p4, p5, p6, p7⟩ := HBx.out _ (box_keep2 HX2.out hb3); clear hb3)
                  | (go_at_call 94; rw [← HCV.out]; refine (share_any h k y c _ (HK.out _ HB3.out) HCk.out HY.out).mono ?_; rintro e w4 ⟨rfl, hb4⟩; have HB4 := Lib.hid (below_two HB3.out hb4); clear hb4)
                  | (go_at_call 95; refine (goodText_any c.text _).mono ?_; rintro e w4 ⟨rfl, hw⟩; subst hw; rw [tx]))
                go_ret
                exact ⟨ret_int HR.out.symm, HB3.out⟩
    · have b1 : (y.1.kind == 2) = false := by simp [hd]
      have HR := Lib.hid (show entryE (ndAt h) c = 3 from by rw [HT.out, if_neg hd])
      clear hd
      go_enter Tryz.func60, Tryz.ntmps60
      go_wp2_with (first
        | (go_at_call 75; refine (has_any h (k : Int) _ (HK.out _ (HBa.out _)) hn).mono ?_; rintro e w2 ⟨rfl, hw⟩; subst hw; rw [hhas])
        | (go_at_call 91; refine (isDir_any h k y _ (HK.out _ (HBa.out _)) HY.out).mono ?_; rintro e w2 ⟨rfl, hw⟩; subst hw; rw [b1])
        | (go_at_call 92; refine (good_any c.name _).mono ?_; rintro e w2 ⟨rfl, hb2⟩; rw [g1]; have HB2 := Lib.hid (below_two (HBa.out _) hb2); have HX2 := Lib.hid (box_keep hb2); obtain ⟨q0, q1, q2, q3, q4, q5, q6, q7⟩ := HBx.out _ (box_keep hb2); clear hb2)
        | (go_at_call 93; refine (hasEntry_any h k y c.name _ (HK.out _ HB2.out) HY.out HYE.out).mono ?_; rintro e w3 ⟨rfl, hb3⟩; rw [e1]; have HB3 := Lib.hid (below_two HB2.out hb3); have HX3 := Lib.hid (box_keep2 HX2.out hb3); obtain ⟨p0, p1, p2, p3, p4, p5, p6, p7⟩ := HBx.out _ (box_keep2 HX2.out hb3); clear hb3)
        | (go_at_call 94; rw [← HCV.out]; refine (share_any h k y c _ (HK.out _ HB3.out) HCk.out HY.out).mono ?_; rintro e w4 ⟨rfl, hb4⟩; have HB4 := Lib.hid (below_two HB3.out hb4); clear hb4)
        | (go_at_call 95; refine (goodText_any c.text _).mono ?_; rintro e w4 ⟨rfl, hw⟩; subst hw; rw [tx]))
      go_ret
      exact ⟨ret_int HR.out.symm, HBa.out _⟩
end Go.Proofs.YtfhagjnlliafiaaGreatDoor.V
