/-
  A file system's model as a tree that is gone through: each directory is come to from one other alone. Conditions: each fact's own.
  What changes make, as a tree that is gone through: bounds of a walk of it, and that what is shown has different names. Conditions: each fact's own.
-/
import Derived.Test.YtpikndeefiediaaGreatDoorKGUp
import Derived.Test.YtpikndeefiediaaGreatDoorKVArg
set_option linter.unusedVariables false
namespace Go.Proofs.YtpikndeefiediaaGreatDoor.G
open Go.Proofs.YtpikndeefiediaaGreatDoor.V Go.Proofs.YtpikndeefiediaaGreatDoor.P Go.Proofs.YtpikndeefiediaaGreatDoor.O

/-- The error of what is shown of a node to somebody. -/
def shownE (M : List Nd) (u g i : Int) : Int := if listE M i = 2 ∨ listE M i = 3 then listE M i else if mayB (bitsP (nvAt M i) u g) 5 = true then listE M i else 5
/-- Whether an entry is shown. -/
def shownB (all : Bool) (e : En) : Bool := all || !(e.1.data.toList.head? == some 46)
def shownL (M : List Nd) (all : Bool) (i : Int) : List En := sortE ((listL M i).filter (shownB all))
def treeM (M : List Nd) (u g : Int) (all : Bool) : Tr := ⟨overI M, fun i => decide (kindM M i = 2), fun i => (shownE M u g i, shownL M all i)⟩
theorem kind_at {M : List Nd} {i : Int} (h : kindM M i = 2) : ∃ (k : Nat) (n : Nd), i = (k : Int) ∧ M[k]? = some n ∧ n.kind = 2 ∧ atM M i = some n := by
  unfold kindM nvAt at h
  cases ha : atM M i with
  | none => rw [ha] at h; cases h
  | some n =>
    rw [ha] at h
    obtain ⟨k, hk, hn⟩ := atM_some ha
    exact ⟨k, n, hk, hn, h, rfl⟩
theorem at_num {M : List Nd} {k : Nat} {n : Nd} (h : M[k]? = some n) : atM M (k : Int) = some n := by
  unfold atM
  rw [if_pos ⟨by omega, by have := (List.getElem?_eq_some_iff.1 h).1; omega⟩, Int.toNat_natCast]
  exact h
theorem list_ents {M : List Nd} {i : Int} {n : Nd} (h : atM M i = some n) {e : En} (he : e ∈ listL M i) : e ∈ n.ents := by
  unfold listL at he
  rw [h] at he
  dsimp only at he
  split at he
  · split at he
    · cases he
    · exact he
  · cases he
theorem shown_mem {M : List Nd} {all : Bool} {i : Int} {e : En} (h : e ∈ shownL M all i) : e ∈ listL M i := by
  unfold shownL at h
  exact (List.mem_filter.1 ((sortE_perm _).mem_iff.1 h)).1
/-- What an entry leads to, where that is a directory. -/
theorem child_at {M : List Nd} (R : RI M) (U : UI M) {k : Nat} {n : Nd} (hn : M[k]? = some n) {e : En} (he : e ∈ n.ents) (hc : kindM M (overI M e.2) = 2) :
    ∃ (j : Nat) (m : Nd) (r : Nat) (q : Nd), e.2 = (j : Int) ∧ M[j]? = some m ∧ m.kind = 2 ∧ m.up = (k : Int) ∧ m.ino ≠ 1 ∧ overI M e.2 = (r : Int) ∧ m.over = (r : Int) ∧ M[r]? = some q ∧ q.up = (k : Int) ∧ k < r := by
  obtain ⟨h0, h1⟩ := R.num k n hn e he
  obtain ⟨j, hj⟩ : ∃ j : Nat, e.2 = (j : Int) := ⟨e.2.toNat, by omega⟩
  obtain ⟨m, hm⟩ : ∃ m, M[j]? = some m := ⟨_, List.getElem?_eq_getElem (by omega)⟩
  have ho : overI M e.2 = m.over := by
    unfold overI
    rw [hj, at_num hm]
  obtain ⟨r, q, hr, hq, hqk, _⟩ := kind_at hc
  have hmk : m.kind = 2 := by
    rcases (R.cov j m hm).2 with w | ⟨w, _⟩
    · have : r = j := by omega
      subst this
      rw [hm] at hq
      rw [Option.some.inj hq]
      exact hqk
    · exact w
  obtain ⟨u1, u2⟩ := U.up k n hn e he j m hj hm hmk
  have hlt := R.ord k n hn e he j m hj hm hmk
  refine ⟨j, m, r, q, hj, hm, hmk, u1, u2, hr, by omega, hq, by rw [U.cup j m r q hm (by omega) hq]; exact u1, ?_⟩
  rcases (R.cov j m hm).2 with w | ⟨_, j', m', hj', _, _, hl⟩
  · omega
  · omega
theorem treeB {M : List Nd} (R : RI M) (U : UI M) (u g : Int) (all : Bool) {E : Nat} (hE : ∀ n ∈ M, n.ents.length ≤ E) : TreeB (treeM M u g all) (upI M) M.length E where
  dir := fun i h => by
    obtain ⟨k, n, hk, hn, _, _⟩ := kind_at (of_decide_eq_true h)
    have := (List.getElem?_eq_some_iff.1 hn).1
    omega
  up := fun d hd e he hc => by
    obtain ⟨k, n, hk, hn, _, ha⟩ := kind_at (of_decide_eq_true hd)
    obtain ⟨j, m, r, q, hj, hm, _, _, _, hr, _, hq, hu, hl⟩ := child_at R U hn (list_ents ha (shown_mem he)) (of_decide_eq_true hc)
    refine ⟨?_, ?_⟩
    · show upI M (overI M e.2) = d
      rw [hr, hk]
      unfold upI
      rw [at_num hq]
      exact hu
    · show d < overI M e.2
      rw [hr, hk]
      omega
  one := fun d hd => by
    obtain ⟨k, n, hk, hn, _, ha⟩ := kind_at (of_decide_eq_true hd)
    have key : (shownL M all d).Pairwise fun a b => ¬ (kindM M (overI M a.2) = 2 ∧ overI M a.2 = overI M b.2) := by
      unfold shownL
      refine (List.Perm.pairwise_iff (fun {a b} h q => h ⟨by rw [← q.2]; exact q.1, q.2.symm⟩) (sortE_perm _)).2 ?_
      refine List.Pairwise.filter _ ?_
      have hsub : (listL M d).Sublist n.ents := by
        unfold listL
        rw [ha]
        dsimp only
        repeat' split
        all_goals first | exact List.nil_sublist _ | exact List.Sublist.refl _
      refine List.Pairwise.sublist hsub ?_
      refine List.pairwise_iff_forall_sublist.2 fun {a b} hs h => ?_
      have hma := hs.subset (List.mem_cons_self)
      have hmb := hs.subset (List.mem_cons_of_mem a List.mem_cons_self)
      obtain ⟨j1, m1, r1, q1, a1, a2, a3, _, a5, a6, a7, _⟩ := child_at R U hn hma h.1
      obtain ⟨j2, m2, r2, q2, b1, b2, b3, _, b5, b6, b7, _⟩ := child_at R U hn hmb (by rw [← h.2]; exact h.1)
      have hj := U.inj j1 m1 j2 m2 a2 b2 (by rw [a7, b7, ← a6, ← b6]; exact h.2) a5 b5
      have hone := List.pairwise_iff_forall_sublist.1 (U.one k n hn) hs j1 m1 a1 a2 a3
      exact hone (by rw [a1, b1, hj])
    exact key.imp fun h hc q => h ⟨of_decide_eq_true hc, q⟩
  few := fun d hd => by
    obtain ⟨k, n, hk, hn, _, ha⟩ := kind_at (of_decide_eq_true hd)
    show (shownL M all d).length ≤ E
    unfold shownL
    rw [(sortE_perm _).length_eq]
    have h1 := List.length_filter_le (shownB all) (listL M d)
    have h2 : (listL M d).length ≤ n.ents.length := by
      unfold listL
      rw [ha]
      dsimp only
      repeat' split
      all_goals first | exact Nat.zero_le _ | exact Nat.le_refl _
    have := hE n (List.mem_of_getElem? hn)
    omega
end Go.Proofs.YtpikndeefiediaaGreatDoor.G

namespace Go.Proofs.YtpikndeefiediaaGreatDoor.G
open Go.Proofs.YtpikndeefiediaaGreatDoor.V Go.Proofs.YtpikndeefiediaaGreatDoor.P Go.Proofs.YtpikndeefiediaaGreatDoor.O

theorem runM_ri : ∀ (cs : List Chg) (M : List Nd), RI M → DevInv M → RI (runM cs M)
  | [], M, h, _ => h
  | c :: r, M, h, hd => runM_ri r (doM M c) (h.do_ hd) (devInv_do hd)
theorem runM_ui : ∀ (cs : List Chg) (M : List Nd), UI M → RI M → DevInv M → UI (runM cs M)
  | [], M, h, _, _ => h
  | c :: r, M, h, hr, hd => runM_ui r (doM M c) (h.do_ hr hd) (hr.do_ hd) (devInv_do hd)
theorem list_sub {M : List Nd} (R : RI M) (i : Int) : DiffE (listL M i) ∧ ∀ e ∈ listL M i, goodB e.1 = true ∧ 0 ≤ e.2 ∧ e.2 < (M.length : Int) := by
  unfold listL
  cases ha : atM M i with
  | none => exact ⟨List.Pairwise.nil, fun e h => by cases h⟩
  | some n =>
    obtain ⟨k, hk, hn⟩ := atM_some ha
    have h1 : DiffE n.ents := (R.one k n hn).imp fun {a b} h q => by
      have : sameT a.1 b.1 = true := by rw [q]; exact sameT_self _
      rw [h] at this
      cases this
    dsimp only
    repeat' split
    all_goals first | exact ⟨List.Pairwise.nil, fun e h => by cases h⟩ | exact ⟨h1, fun e he => ⟨R.good k n hn e he, R.num k n hn e he⟩⟩
theorem shown_good {M : List Nd} (R : RI M) (all : Bool) (i : Int) {e : En} (h : e ∈ shownL M all i) : goodB e.1 = true ∧ 0 ≤ e.2 ∧ e.2 < (M.length : Int) := (list_sub R i).2 e (shown_mem h)
end Go.Proofs.YtpikndeefiediaaGreatDoor.G
