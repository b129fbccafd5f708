/-
  What two points behind a path, more slashes, and points between come to in the model's walk. Conditions: each fact's own.
-/
import Derived.Test.YtknfhphhcnbndaaGreatDoorKZArg
import Derived.Test.YtknfhphhcnbndaaGreatDoorKVRefApp
set_option linter.unusedSimpArgs false
set_option linter.unusedVariables false
namespace Go.Proofs.YtknfhphhcnbndaaGreatDoor.V
open Go.Proofs.YtknfhphhcnbndaaGreatDoor.P
open Go.RowKit

def mkB (l : List UInt8) : ByteArray := ⟨l.toArray⟩
/-- What the ways upwards look at. -/
def core (n : Nd) : Int × Int × Int := (n.kind, n.up, n.over)
def kc (C : List (Int × Int × Int)) (j : Int) : Int := if 0 ≤ j ∧ j < (C.length : Int) then ((C[j.toNat]?).map (·.1)).getD 0 else 0
theorem kindM_core (M : List Nd) (j : Int) : kindM M j = kc (M.map core) j := by
  unfold kindM nvAt kc atM
  rw [List.length_map]
  by_cases h : 0 ≤ j ∧ j < (M.length : Int)
  · rw [if_pos h, if_pos h, List.getElem?_map]
    cases hm : M[j.toNat]? with
    | none => rfl
    | some n => rfl
  · rw [if_neg h, if_neg h]
    rfl
def DUc (C : List (Int × Int × Int)) : Prop := ∀ (i : Nat) (u o : Int), C[i]? = some (2, u, o) → kc C u = 2 ∧ kc C o = 2
def DU (M : List Nd) : Prop := DUc (M.map core)
theorem du_new : DU newM := by
  intro i u o hi
  match i, hi with
  | 0, hi =>
    have e : (newM.map core)[0]? = some (2, 0, 0) := by decide
    rw [e] at hi
    obtain ⟨rfl, rfl⟩ : u = 0 ∧ o = 0 := by
      have := Option.some.inj hi
      simp only [Prod.mk.injEq, true_and] at this
      exact ⟨this.1.symm, this.2.symm⟩
    exact ⟨by decide, by decide⟩
  | i + 1, hi => simp [newM] at hi
/-- Above a directory there is one, and what covers it. -/
theorem du_up {M : List Nd} (h : DU M) {i : Int} (hi : kindM M i = 2) : kindM M (overI M (upI M i)) = 2 := by
  rw [kindM_core] at hi
  unfold kc at hi
  split at hi
  · rename_i q
    rw [List.length_map] at q
    have hat : ∃ n, M[i.toNat]? = some n := ⟨_, List.getElem?_eq_getElem (by omega)⟩
    obtain ⟨n, hn⟩ := hat
    have ha : atM M i = some n := by unfold atM; rw [if_pos q]; exact hn
    rw [List.getElem?_map, hn] at hi
    have hk : n.kind = 2 := hi
    have hc : (M.map core)[i.toNat]? = some (2, n.up, n.over) := by rw [List.getElem?_map, hn]; show some (core n) = _; unfold core; rw [hk]
    have hu := (h _ _ _ hc).1
    have eu : upI M i = n.up := by unfold upI; rw [ha]
    rw [eu]
    -- the one above
    unfold kc at hu
    split at hu
    · rename_i q2
      rw [List.length_map] at q2
      obtain ⟨m, hm⟩ : ∃ m, M[n.up.toNat]? = some m := ⟨_, List.getElem?_eq_getElem (by omega)⟩
      have hb : atM M n.up = some m := by unfold atM; rw [if_pos q2]; exact hm
      rw [List.getElem?_map, hm] at hu
      have hk2 : m.kind = 2 := hu
      have hc2 : (M.map core)[n.up.toNat]? = some (2, m.up, m.over) := by rw [List.getElem?_map, hm]; show some (core m) = _; unfold core; rw [hk2]
      have eo : overI M n.up = m.over := by unfold overI; rw [hb]
      rw [eo, kindM_core]
      exact (h _ _ _ hc2).2
    · cases hu
  · cases hi

theorem thru_true (M : List Nd) (sl : Bool) (r : List ByteArray) (i : Int) : thruW M true sl r i = (kindM M i == 3) := by
  unfold thruW
  simp
theorem kOf_succ (M : List Nd) (u g : Int) (fo : Bool) (h : Nat) (i : Int) (r : List ByteArray) (q : Pl) (sl : Bool) : kOf M u g fo (h + 1) i r q sl = if linkE M i = 0 then goW M u g fo h (namesL (linkT M i) ++ r) (if beginsB (linkT M i) = true then plOf 0 else q) (sl || (endsB (linkT M i) && r.isEmpty)) else bad (linkE M i) := rfl
theorem ends_last (s : ByteArray) : endsB s = (s.data.toList.getLast? == some 47) := by
  unfold endsB Lib.hasSuffix List.isSuffixOf
  generalize s.data.toList = l
  rw [← List.head?_reverse]
  cases l.reverse with
  | nil => rfl
  | cons x r =>
    simp [List.isPrefixOf]
    rw [Bool.eq_iff_iff, beq_iff_eq, beq_iff_eq]
    exact eq_comm
theorem size_list (s : ByteArray) : s.data.toList.length = s.size := by simp
end Go.Proofs.YtknfhphhcnbndaaGreatDoor.V
