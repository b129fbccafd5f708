/-
  A root with a row of directories, or of files, of different names: what one more makes. Conditions: each fact's own.
-/
import Derived.Test.YtehieipiagpehaaVNames
set_option linter.unusedVariables false
namespace Go.Proofs.Ytehieipiagpehaa
open Go.RowKit

def nameT (i : Nat) : ByteArray := ⟨#[UInt8.ofNat (97 + i % 26), UInt8.ofNat (97 + i / 26)]⟩
theorem nameT_inj {i j : Nat} (hi : i < 320) (hj : j < 320) (h : nameT i = nameT j) : i = j := by
  unfold nameT at h
  simp only [ByteArray.mk.injEq, Array.mk.injEq, List.cons.injEq, and_true] at h
  have h1 := congrArg UInt8.toNat h.1
  have h2 := congrArg UInt8.toNat h.2
  simp only [UInt8.toNat_ofNat'] at h1 h2
  omega
theorem toList_mk2 (a b : UInt8) : (⟨#[a, b]⟩ : ByteArray).toList = [a, b] := by rw [Lib.toList_data]
theorem sameT_eq {a b : ByteArray} (h : sameT a b = true) : a = b := by
  unfold sameT at h
  rw [beq_iff_eq, Lib.toList_data, Lib.toList_data] at h
  cases a; cases b
  rename_i x y
  simp at h
  rw [h]
theorem goodB_name (i : Nat) (hi : i < 320) : goodB (nameT i) = true := by
  have h : ∀ i : Fin 320, goodB (nameT i.1) = true := by decide +kernel
  exact h ⟨i, hi⟩
def entsOf (n : Nat) : List (ByteArray × Int) := (List.range n).map fun (j : Nat) => (nameT j, (j : Int) + 1)
theorem entsOf_next (n : Nat) : entsOf (n + 1) = entsOf n ++ [(nameT n, (n : Int) + 1)] := by
  unfold entsOf
  rw [List.range_succ, List.map_append]
  rfl
theorem entsOf_len (n : Nat) : (entsOf n).length = n := by unfold entsOf; rw [List.length_map, List.length_range]
theorem hasEnt_no (n : Nat) (hn : n < 320) : hasEnt (nameT n) (entsOf n) = false := by
  unfold hasEnt
  rw [List.any_eq_false]
  intro e he hs
  unfold entsOf at he
  obtain ⟨j, hj, rfl⟩ := List.mem_map.1 he
  have hj := List.mem_range.1 hj
  have := nameT_inj (by omega) hn (sameT_eq hs)
  omega
theorem hasEnt_more (n : Nat) (hn : n < 320) : hasEnt ⟨#[109, 111, 114, 101]⟩ (entsOf n) = false := by
  unfold hasEnt
  rw [List.any_eq_false]
  intro e he hs
  unfold entsOf at he
  obtain ⟨j, hj, rfl⟩ := List.mem_map.1 he
  have h := sameT_eq hs
  unfold nameT at h
  simp at h

theorem modify_last {α : Type} (l : List α) (x : α) (f : α → α) : (l ++ [x]).modify l.length f = l ++ [f x] := by
  induction l with
  | nil => rfl
  | cons a r ih =>
    rw [List.cons_append, List.length_cons, List.modify_succ_cons, ih]
    rfl

/-- A root with m entries of the kind K (2: directories; 1: files). -/
def Row (K : Int) (m : Nat) (M : List Nd) : Prop :=
  ∃ root rest, M = root :: rest ∧ root.kind = 2 ∧ root.dev = 1 ∧ root.ents = entsOf m ∧ root.links = (if K = 2 then 2 + (m : Int) else 2) ∧ rest.length = m ∧
    ∀ n ∈ rest, n.kind = K ∧ n.dev = 1 ∧ n.ents = [] ∧ 0 ≤ n.links ∧ n.links ≤ 2
theorem row_new (K : Int) : Row K 0 newM := ⟨addedNd (dirNd 493 0) 1 [], [], rfl, rfl, rfl, rfl, by show (2 : Int) = _; split <;> rfl, rfl, fun n hn => by cases hn⟩
theorem row_small {K : Int} {m : Nat} {M : List Nd} (h : Row K m M) (hm : m ≤ 299) : Small M 400 := by
  obtain ⟨root, rest, rfl, h1, h2, h3, h4, h5, h6⟩ := h
  refine ⟨by rw [List.length_cons]; omega, fun n hn => ?_⟩
  rcases List.mem_cons.1 hn with rfl | hn
  · rw [h3, entsOf_len, h4]
    split <;> omega
  · obtain ⟨q1, q2, q3, q4, q5⟩ := h6 n hn
    rw [q3]
    exact ⟨q4, by omega, by simp⟩
theorem row_len {K : Int} {m : Nat} {M : List Nd} (h : Row K m M) : M.length = m + 1 := by
  obtain ⟨root, rest, rfl, h1, h2, h3, h4, h5, h6⟩ := h
  rw [List.length_cons, h5]
def rowC (K : Int) (i : Nat) (n : Int) : Chg := ⟨if K = 2 then 0 else 1, 0, 0, nameT i, ⟨#[]⟩, 420, 0, n⟩
theorem atM_root {root : Nd} {rest : List Nd} : atM (root :: rest) 0 = some root := by
  unfold atM
  rw [if_pos ⟨by omega, by simp only [List.length_cons]; omega⟩]
  rfl
theorem row_entry {K : Int} {m i : Nat} {M : List Nd} {n : Int} (h : Row K m M) (hK : K = 2 ∨ K = 1) (hi : i < 320) (hm : hasEnt (nameT i) (entsOf m) = false) (hn : 0 ≤ n) : baseE (atM M) (rowC K i n) = 0 := by
  obtain ⟨root, rest, rfl, h1, h2, h3, h4, h5, h6⟩ := h
  unfold baseE
  have hk : (rowC K i n).kind = if K = 2 then 0 else 1 := rfl
  rw [if_pos (by rw [hk]; split <;> omega)]
  unfold entryE
  rw [show (rowC K i n).at_ = 0 from rfl, atM_root]
  dsimp only
  rw [show (rowC K i n).name = nameT i from rfl, if_pos h1, if_pos (goodB_name i hi), if_neg (by rw [h3, hm]; decide), if_neg (by rw [hk]; split <;> omega), if_neg (by rw [show (rowC K i n).n = n from rfl]; omega), if_neg (by rw [hk]; split <;> omega)]
theorem row_kind {K : Int} (hK : K = 2 ∨ K = 1) (i : Nat) (n : Int) : makesB (rowC K i n).kind = true := by
  unfold makesB rowC
  rcases hK with rfl | rfl <;> rfl
theorem row_more {K : Int} {m i : Nat} {M : List Nd} {n : Int} (h : Row K m M) (hK : K = 2 ∨ K = 1) (hi : i < 320) (hn : 0 ≤ n) (hmi : m = i) (hm : m < 299) :
    wrongM M (rowC K i n) = 0 ∧ doR M (rowC K i n) = (i : Int) + 1 ∧ Row K (i + 1) (doM M (rowC K i n)) := by
  subst hmi
  have hb := row_entry h hK hi (hasEnt_no m hi) hn
  have hl := row_len h
  have hw : wrongM M (rowC K m n) = 0 := by
    unfold wrongM refuseE
    rw [if_neg (fun e => by have := e.2.2; omega), hb]
  refine ⟨hw, ?_, ?_⟩
  · unfold doR
    rw [if_pos hw]
    unfold carryM
    rcases hK with rfl | rfl
    · rw [if_pos (show (rowC 2 m n).kind = 0 from rfl)]; show (M.length : Int) = _; omega
    · rw [if_neg (show ¬ (rowC 1 m n).kind = 0 from by show ¬ (1 : Int) = 0; decide), if_pos (show (rowC 1 m n).kind = 1 from rfl)]; show (M.length : Int) = _; omega
  · unfold doM
    rw [if_pos hw]
    obtain ⟨root, rest, rfl, h1, h2, h3, h4, h5, h6⟩ := h
    have hat : (atM (root :: rest) (rowC K m n).at_).elim 0 (·.dev) = 1 := by rw [show (rowC K m n).at_ = 0 from rfl, atM_root]; exact h2
    have ht : (rowC K m n).at_.toNat = 0 := rfl
    have hnm : (rowC K m n).name = nameT m := rfl
    unfold carryM
    rcases hK with rfl | rfl
    · rw [if_pos (show (rowC 2 m n).kind = 0 from rfl), hat, ht, hnm]
      show Row 2 (m + 1) (builtM (root :: rest) 0 (nameT m) (dirNd (420 % 4096) 0) 1)
      unfold builtM
      rw [List.cons_append, List.modify_zero_cons, if_pos (show (dirNd (420 % 4096) 0).kind = 2 from rfl), List.modify_zero_cons]
      refine ⟨_, _, rfl, h1, h2, ?_, ?_, by simp [h5], fun x hx => ?_⟩
      · show root.ents ++ [(nameT m, _)] = _
        rw [entsOf_next, h3, List.length_cons, h5]
        rfl
      · show root.links + 1 = _
        rw [h4, if_pos rfl, if_pos rfl]
        omega
      · rcases List.mem_append.1 hx with q | q
        · exact h6 x q
        · obtain rfl : x = _ := by simpa using q
          exact ⟨rfl, rfl, rfl, by show (0 : Int) ≤ 2; decide, by show (2 : Int) ≤ 2; decide⟩
    · rw [if_neg (show ¬ (rowC 1 m n).kind = 0 from by show ¬ (1 : Int) = 0; decide), if_pos (show (rowC 1 m n).kind = 1 from rfl), hat, ht, hnm]
      show Row 1 (m + 1) (builtM (root :: rest) 0 (nameT m) (fileNd (420 % 4096) n (blkOf n)) 1)
      unfold builtM
      rw [List.cons_append, List.modify_zero_cons, if_neg (by show ¬ (1 : Int) = 2; decide), List.length_cons, List.modify_succ_cons, modify_last]
      refine ⟨_, _, rfl, h1, h2, ?_, ?_, by simp [h5], fun x hx => ?_⟩
      · show root.ents ++ [(nameT m, _)] = _
        rw [entsOf_next, h3, h5]
        rfl
      · show root.links = _
        rw [h4, if_neg (by decide), if_neg (by decide)]
      · rcases List.mem_append.1 hx with q | q
        · exact h6 x q
        · obtain rfl : x = _ := by simpa using q
          exact ⟨rfl, rfl, rfl, by show (0 : Int) ≤ 0 + 1; decide, by show (0 : Int) + 1 ≤ 2; decide⟩
theorem hasEnt_take (n m : Nat) (hm : m ≤ n) (hn : n < 320) : hasEnt (nameT n) (entsOf m) = false := by
  unfold hasEnt
  rw [List.any_eq_false]
  intro e he hs
  unfold entsOf at he
  obtain ⟨j, hj, rfl⟩ := List.mem_map.1 he
  have hj := List.mem_range.1 hj
  have := nameT_inj (by omega) hn (sameT_eq hs)
  omega
theorem row_full {K : Int} {i : Nat} {M : List Nd} {n : Int} (h : Row K 299 M) (hK : K = 2 ∨ K = 1) (hi : i < 320) (hn : 0 ≤ n) (h9 : 299 ≤ i) :
    wrongM M (rowC K i n) = 9 ∧ doR M (rowC K i n) = 0 ∧ doM M (rowC K i n) = M := by
  have hb := row_entry h hK hi (hasEnt_take i 299 h9 hi) hn
  have hl := row_len h
  have hw : wrongM M (rowC K i n) = 9 := by
    unfold wrongM refuseE
    rw [if_pos ⟨hb, row_kind hK i n, by omega⟩]
  refine ⟨hw, ?_, ?_⟩
  · unfold doR; rw [hw]; rfl
  · unfold doM; rw [hw]; rfl
def moreC : Chg := ⟨2, 0, 1, ⟨#[109, 111, 114, 101]⟩, ⟨#[]⟩, 0, 0, 0⟩
theorem row_last {K : Int} {M : List Nd} (h : Row K 299 M) (hK : K = 2 ∨ K = 1) :
    ∃ root rest, wrongM M moreC = (if K = 2 then 1 else 0) ∧ doM M moreC = root :: rest ∧ rest.length = 299 ∧ root.links = (if K = 2 then 301 else 2) := by
  obtain ⟨root, rest, rfl, h1, h2, h3, h4, h5, h6⟩ := h
  cases rest with
  | nil => simp at h5
  | cons y rest =>
    obtain ⟨y1, y2, y3, y4, y5⟩ := h6 y (List.mem_cons_self ..)
    have hat1 : atM (root :: y :: rest) 1 = some y := by
      unfold atM
      rw [if_pos (by simp; omega)]
      rfl
    have hE : entryE (atM (root :: y :: rest)) moreC = if K = 2 then 1 else 0 := by
      unfold entryE
      rw [show moreC.at_ = 0 from rfl, atM_root]
      dsimp only
      rw [if_pos h1, if_pos (show goodB moreC.name = true by decide +kernel), if_neg (by rw [h3, show moreC.name = ⟨#[109, 111, 114, 101]⟩ from rfl, hasEnt_more 299 (by omega)]; decide), if_pos (show moreC.kind = 2 from rfl)]
      unfold shareE
      rw [show moreC.to = 1 from rfl, hat1]
      dsimp only
      rw [y1, y2, h2]
      rcases hK with rfl | rfl <;> rfl
    have hw : wrongM (root :: y :: rest) moreC = if K = 2 then 1 else 0 := by
      unfold wrongM refuseE
      rw [if_neg (fun e => by have := e.2.1; cases this)]
      unfold baseE
      rw [if_pos (by decide), hE]
    rcases hK with rfl | rfl
    · refine ⟨root, y :: rest, hw, ?_, h5, ?_⟩
      · unfold doM; rw [hw]; rfl
      · rw [h4]; rfl
    · refine ⟨addEnt moreC.name moreC.to root, (y :: rest).modify 0 moreLinks, hw, ?_, ?_, ?_⟩
      · unfold doM
        rw [hw, if_pos (by rfl)]
        unfold carryM
        rw [if_neg (by decide), if_neg (by decide), if_pos (show moreC.kind = 2 from rfl), show (atM (root :: y :: rest) moreC.to).elim 0 (·.kind) = 1 from by rw [show moreC.to = 1 from rfl, hat1]; exact y1]
        rfl
      · rw [List.length_modify]; exact h5
      · show root.links = _
        rw [h4]; rfl
end Go.Proofs.Ytehieipiagpehaa
