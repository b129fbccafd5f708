/-
  Real paths in the model: what a directory's names come to, and that a real path is walked to where it was had from. Conditions: each fact's own.
  What real.Dir's loop holds, and how a real path is put together, in the model. Conditions: each fact's own.
-/
import Derived.Test.YtknfhphhcnbndaaGreatDoorKHUp
import Derived.Lib.Join
set_option linter.unusedSimpArgs false
set_option linter.unusedVariables false
namespace Go.Proofs.YtknfhphhcnbndaaGreatDoor.V
open Go.Proofs.YtknfhphhcnbndaaGreatDoor.P
open Go.RowKit

theorem mod_at {M : List Nd} {i k : Nat} {f : Nd → Nd} {y : Nd} (h : (M.modify i f)[k]? = some y) : ∃ x, M[k]? = some x ∧ y = if i = k then f x else x := by
  rw [List.getElem?_modify] at h
  cases hm : M[k]? with
  | none => rw [hm] at h; cases h
  | some x =>
    rw [hm] at h
    exact ⟨x, rfl, (Option.some.inj h).symm⟩
theorem mod_fwd {M : List Nd} {i k : Nat} {f : Nd → Nd} {x : Nd} (h : M[k]? = some x) : (M.modify i f)[k]? = some (if i = k then f x else x) := by
  rw [List.getElem?_modify, h]
  rfl
/-- What real paths lean on: entries' names are good and differ; directories' entries go up in number; what covers is covered by nothing; there is a root. -/
structure RI (M : List Nd) : Prop where
  good : ∀ (k : Nat) (n : Nd), M[k]? = some n → ∀ e ∈ n.ents, goodB e.1 = true
  one : ∀ (k : Nat) (n : Nd), M[k]? = some n → n.ents.Pairwise (fun a b => sameT a.1 b.1 = false)
  num : ∀ (k : Nat) (n : Nd), M[k]? = some n → ∀ e ∈ n.ents, 0 ≤ e.2 ∧ e.2 < (M.length : Int)
  ord : ∀ (k : Nat) (n : Nd), M[k]? = some n → ∀ e ∈ n.ents, ∀ (j : Nat) (m : Nd), e.2 = (j : Int) → M[j]? = some m → m.kind = 2 → k < j
  cov : ∀ (k : Nat) (n : Nd), M[k]? = some n → (n.ino = 1 → n.over = (k : Int)) ∧ (n.over = (k : Int) ∨ (n.kind = 2 ∧ ∃ (j : Nat) (m : Nd), n.over = (j : Int) ∧ M[j]? = some m ∧ m.ino = 1 ∧ k < j))
  root : ∃ n, M[0]? = some n ∧ n.kind = 2 ∧ n.ino = 1

theorem RI.same {M : List Nd} {i : Nat} {f : Nd → Nd} (H : RI M) (hf : ∀ n, (f n).ents = n.ents ∧ (f n).kind = n.kind ∧ (f n).ino = n.ino ∧ (f n).over = n.over) : RI (M.modify i f) := by
  have e1 : ∀ (k : Nat) (x : Nd), (if i = k then f x else x).ents = x.ents := fun k x => by split; exact (hf x).1; rfl
  have e2 : ∀ (k : Nat) (x : Nd), (if i = k then f x else x).kind = x.kind := fun k x => by split; exact (hf x).2.1; rfl
  have e3 : ∀ (k : Nat) (x : Nd), (if i = k then f x else x).ino = x.ino := fun k x => by split; exact (hf x).2.2.1; rfl
  have e4 : ∀ (k : Nat) (x : Nd), (if i = k then f x else x).over = x.over := fun k x => by split; exact (hf x).2.2.2; rfl
  refine ⟨fun k y hy => ?_, fun k y hy => ?_, fun k y hy => ?_, fun k y hy => ?_, fun k y hy => ?_, ?_⟩
  · obtain ⟨x, hx, rfl⟩ := mod_at hy
    rw [e1]
    exact H.good k x hx
  · obtain ⟨x, hx, rfl⟩ := mod_at hy
    rw [e1]
    exact H.one k x hx
  · obtain ⟨x, hx, rfl⟩ := mod_at hy
    rw [e1, List.length_modify]
    exact H.num k x hx
  · obtain ⟨x, hx, rfl⟩ := mod_at hy
    rw [e1]
    intro e he j m hj hm hk
    obtain ⟨z, hz, rfl⟩ := mod_at hm
    rw [e2] at hk
    exact H.ord k x hx e he j z hj hz hk
  · obtain ⟨x, hx, rfl⟩ := mod_at hy
    rw [e2, e3, e4]
    refine ⟨(H.cov k x hx).1, (H.cov k x hx).2.imp id ?_⟩
    rintro ⟨h2, j, m, hj, hm, hi, hl⟩
    exact ⟨h2, j, _, hj, mod_fwd hm, by rw [e3]; exact hi, hl⟩
  · obtain ⟨n, hn, h1, h2⟩ := H.root
    exact ⟨_, mod_fwd hn, by rw [e2]; exact h1, by rw [e3]; exact h2⟩
theorem RI.enter {M : List Nd} {i j : Nat} {s : ByteArray} {d : Nd} (H : RI M) (hd : M[i]? = some d) (hg : goodB s = true) (hh : hasEnt s d.ents = false) (hj : j < M.length) (ho : ∀ m, M[j]? = some m → m.kind = 2 → i < j) : RI (M.modify i (addEnt s (j : Int))) := by
  have e2 : ∀ (k : Nat) (x : Nd), (if i = k then addEnt s (j : Int) x else x).kind = x.kind := fun k x => by split <;> rfl
  have e3 : ∀ (k : Nat) (x : Nd), (if i = k then addEnt s (j : Int) x else x).ino = x.ino := fun k x => by split <;> rfl
  have e4 : ∀ (k : Nat) (x : Nd), (if i = k then addEnt s (j : Int) x else x).over = x.over := fun k x => by split <;> rfl
  have em : ∀ (k : Nat) (x : Nd) e, e ∈ (if i = k then addEnt s (j : Int) x else x).ents → e ∈ x.ents ∨ (i = k ∧ e = (s, (j : Int))) := fun k x e he => by
    split at he
    · rename_i q
      have he : e ∈ x.ents ++ [(s, (j : Int))] := he
      rcases List.mem_append.1 he with z | z
      · exact .inl z
      · exact .inr ⟨q, by simpa using z⟩
    · exact .inl he
  refine ⟨fun k y hy => ?_, fun k y hy => ?_, fun k y hy => ?_, fun k y hy => ?_, fun k y hy => ?_, ?_⟩
  · obtain ⟨x, hx, rfl⟩ := mod_at hy
    intro e he
    rcases em k x e he with q | ⟨_, rfl⟩
    · exact H.good k x hx e q
    · exact hg
  · obtain ⟨x, hx, rfl⟩ := mod_at hy
    split
    · rename_i q
      subst q
      rw [hd] at hx
      obtain rfl := Option.some.inj hx
      show (d.ents ++ [(s, (j : Int))]).Pairwise _
      refine List.pairwise_append.2 ⟨H.one i d hd, List.pairwise_singleton _ _, fun a ha b hb => ?_⟩
      obtain rfl : b = (s, (j : Int)) := by simpa using hb
      unfold hasEnt at hh
      exact Bool.eq_false_iff.2 (fun q => by rw [List.any_eq_true.2 ⟨a, ha, q⟩] at hh; cases hh)
    · exact H.one k x hx
  · obtain ⟨x, hx, rfl⟩ := mod_at hy
    intro e he
    rw [List.length_modify]
    rcases em k x e he with q | ⟨_, rfl⟩
    · exact H.num k x hx e q
    · exact ⟨by omega, by omega⟩
  · obtain ⟨x, hx, rfl⟩ := mod_at hy
    intro e he j' m hj' hm hk
    obtain ⟨z, hz, rfl⟩ := mod_at hm
    rw [e2] at hk
    rcases em k x e he with q | ⟨q, rfl⟩
    · exact H.ord k x hx e q j' z hj' hz hk
    · subst q
      obtain rfl : j = j' := by
        have : (j : Int) = (j' : Int) := hj'
        omega
      exact ho z hz hk
  · obtain ⟨x, hx, rfl⟩ := mod_at hy
    rw [e2, e3, e4]
    refine ⟨(H.cov k x hx).1, (H.cov k x hx).2.imp id ?_⟩
    rintro ⟨h2, j', m, hj', hm, hi, hl⟩
    exact ⟨h2, j', _, hj', mod_fwd hm, by rw [e3]; exact hi, hl⟩
  · obtain ⟨n, hn, h1, h2⟩ := H.root
    exact ⟨_, mod_fwd hn, by rw [e2]; exact h1, by rw [e3]; exact h2⟩
theorem ri_new : RI newM := by
  have h0 : ∀ (k : Nat) (n : Nd), newM[k]? = some n → k = 0 ∧ n = addedNd (dirNd 493 0) 1 [] := fun k n h => by
    have hk : k = 0 := by
      have := (List.getElem?_eq_some_iff.1 h).1
      simp [newM] at this
      exact this
    subst hk
    exact ⟨rfl, by simpa [newM] using h.symm⟩
  refine ⟨fun k n h => ?_, fun k n h => ?_, fun k n h => ?_, fun k n h => ?_, fun k n h => ?_, ⟨_, rfl, rfl, rfl⟩⟩
  · obtain ⟨rfl, rfl⟩ := h0 k n h; intro e he; cases he
  · obtain ⟨rfl, rfl⟩ := h0 k n h; exact List.Pairwise.nil
  · obtain ⟨rfl, rfl⟩ := h0 k n h; intro e he; cases he
  · obtain ⟨rfl, rfl⟩ := h0 k n h; intro e he; cases he
  · obtain ⟨rfl, rfl⟩ := h0 k n h; exact ⟨fun _ => rfl, .inl rfl⟩
theorem over_over {M : List Nd} (H : RI M) (i : Int) : overI M (overI M i) = overI M i := by
  cases ha : atM M i with
  | none =>
    have e : overI M i = i := by unfold overI; rw [ha]
    rw [e, e]
  | some n =>
    obtain ⟨k, hk, hn⟩ := atM_some ha
    have e : overI M i = n.over := by unfold overI; rw [ha]
    rcases (H.cov k n hn).2 with h | ⟨_, j, m, hj, hm, h1, _⟩
    · rw [e, h, ← hk, e, h, hk]
    · have hat : atM M (j : Int) = some m := by
        unfold atM
        rw [if_pos ⟨by omega, by have := (List.getElem?_eq_some_iff.1 hm).1; omega⟩, Int.toNat_natCast]
        exact hm
      have e2 : overI M (j : Int) = m.over := by unfold overI; rw [hat]
      rw [e, hj, e2, (H.cov j m hm).1 h1]
theorem over_root {M : List Nd} (H : RI M) : overI M 0 = 0 := by
  obtain ⟨n, hn, _, h1⟩ := H.root
  have hat : atM M 0 = some n := by
    unfold atM
    rw [if_pos ⟨by omega, by have := (List.getElem?_eq_some_iff.1 hn).1; omega⟩]
    exact hn
  unfold overI
  rw [hat]
  exact (H.cov 0 n hn).1 h1
theorem kind_root {M : List Nd} (H : RI M) : kindM M 0 = 2 := by
  obtain ⟨n, hn, h2, _⟩ := H.root
  have hat : atM M 0 = some n := by
    unfold atM
    rw [if_pos ⟨by omega, by have := (List.getElem?_eq_some_iff.1 hn).1; omega⟩]
    exact hn
  unfold kindM nvAt
  rw [hat]
  exact h2
theorem sameT_eq {a b : ByteArray} (h : sameT a b = true) : a = b := by
  unfold sameT at h
  have h : a.toList = b.toList := by simpa using h
  rw [Go.Lib.toList_data, Go.Lib.toList_data] at h
  exact ByteArray.ext (Array.toList_inj.1 h)
theorem findE_mem : ∀ {l : List (ByteArray × Int)} {s : ByteArray} {e : Int}, findE s l = some e → (s, e) ∈ l
  | [], s, e, h => by cases h
  | x :: r, s, e, h => by
    rw [findE] at h
    split at h
    · rename_i q
      have := sameT_eq q
      obtain ⟨a, b⟩ := x
      obtain rfl : a = s := this
      obtain rfl : b = e := Option.some.inj h
      exact List.mem_cons_self
    · exact List.mem_cons_of_mem _ (findE_mem h)
theorem listL_ents {M : List Nd} {i : Int} {x : ByteArray × Int} (h : x ∈ listL M i) : ∃ (k : Nat) (n : Nd), i = (k : Int) ∧ M[k]? = some n ∧ listL M i = n.ents := by
  cases ha : atM M i with
  | none =>
    unfold listL at h
    rw [ha] at h
    cases h
  | some n =>
    obtain ⟨k, hk, hn⟩ := atM_some ha
    refine ⟨k, n, hk, hn, ?_⟩
    unfold listL at h ⊢
    rw [ha] at h ⊢
    dsimp only at h ⊢
    split
    · rename_i q
      rw [if_pos q] at h
      split
      · rename_i z
        rw [if_pos z] at h
        cases h
      · rfl
    · rename_i q
      rw [if_neg q] at h
      cases h

/-- The first entry of a node. -/
def firstN (M : List Nd) (i : Int) (l : List (ByteArray × Int)) : Option (ByteArray × Int) := l.find? fun x => overI M x.2 == i
/-- A directory's names, from the root on. -/
inductive DirN (M : List Nd) : Int → List ByteArray → Prop
  | root : DirN M 0 []
  | step {i : Int} {ns : List ByteArray} {nm : ByteArray} {e : Int} (h0 : i ≠ 0) (hk : kindM M i = 2) (hl : listE M (overI M (upI M i)) = 0) (he : firstN M i (listL M (overI M (upI M i))) = some (nm, e)) (hd : DirN M (overI M (upI M i)) ns) : DirN M i (ns ++ [nm])
theorem dirN_det {M : List Nd} : ∀ {i : Int} {a b : List ByteArray}, DirN M i a → DirN M i b → a = b := by
  intro i a b h
  induction h generalizing b with
  | root =>
    intro h2
    cases h2 with
    | root => rfl
    | step h0 => exact absurd rfl h0
  | step h0 hk hl he hd ih =>
    intro h2
    cases h2 with
    | root => exact absurd rfl h0
    | step h0' hk' hl' he' hd' =>
      rw [he] at he'
      have := Option.some.inj he'
      rw [ih hd', (Prod.mk.inj this).1]
theorem goodB_parts {s : ByteArray} (h : goodB s = true) : 1 ≤ s.size ∧ s.size ≤ 255 ∧ s.toList ≠ [46] ∧ s.toList ≠ [46, 46] ∧ ∀ b ∈ s.data.toList, b ≠ 47 := by
  unfold goodB at h
  simp only [Bool.and_eq_true, decide_eq_true_eq, Bool.not_eq_true', beq_eq_false_iff_ne, decide_eq_false_iff_not] at h
  obtain ⟨h1, h2, h3, h4, h5⟩ := h
  refine ⟨h1, h2, h3, h4, fun b hb q => h5 ?_⟩
  subst q
  have key : ∀ l : List UInt8, (47 : UInt8) ∈ l → 0 ≤ Lib.indexAny l hardL := fun l => by
    induction l with
    | nil => intro h; cases h
    | cons x r ih =>
      intro h
      rw [Lib.indexAny]
      split
      · exact Int.le_refl _
      · rename_i hx
        have hr : (47 : UInt8) ∈ r := by
          rcases List.mem_cons.1 h with e | e
          · subst e; exact absurd (by decide) hx
          · exact e
        have := ih hr
        rw [if_neg (by intro z; have := beq_iff_eq.1 z; omega)]
        omega
  exact key _ hb
/-- What a walk's place is. -/
def PlOk (M : List Nd) (p : Pl) : Prop := overI M p.id = p.id ∧ ((p.name = ⟨#[]⟩ ∧ p.dir = p.id ∧ kindM M p.id = 2) ∨ (overI M p.dir = p.dir ∧ kindM M p.dir = 2 ∧ listE M p.dir = 0 ∧ goodB p.name = true ∧ ∃ e, findE p.name (listL M p.dir) = some e ∧ overI M e = p.id))
theorem plOk_root {M : List Nd} (H : RI M) : PlOk M (plOf 0) := ⟨over_root H, .inl ⟨rfl, rfl, kind_root H⟩⟩
theorem entW_place {M : List Nd} (H : RI M) (hD : DU M) {u g : Int} {p q : Pl} {s : ByteArray} (hp : PlOk M p) (h : entW M u g p.id s = .ok q) : PlOk M q := by
  unfold entW at h
  split at h
  · rename_i hk
    split at h
    · split at h
      · split at h
        · obtain rfl : plOf p.id = q := Except.ok.inj h
          exact ⟨hp.1, .inl ⟨rfl, rfl, hk⟩⟩
        · split at h
          · obtain rfl : plOf (overI M (upI M p.id)) = q := Except.ok.inj h
            exact ⟨over_over H _, .inl ⟨rfl, rfl, du_up hD hk⟩⟩
          · split at h
            · rename_i hl
              split at h
              · cases h
              · rename_i e he
                obtain rfl : (⟨overI M e, p.id, s⟩ : Pl) = q := Except.ok.inj h
                have hm := findE_mem he
                obtain ⟨k, n, _, hn, hln⟩ := listL_ents hm
                exact ⟨over_over H _, .inr ⟨hp.1, hk, hl, H.good k n hn (s, e) (by rw [← hln]; exact hm), e, he, rfl⟩⟩
            · cases h
      · cases h
    · cases h
  · cases h
theorem walk_place {M : List Nd} (H : RI M) (hD : DU M) (u g : Int) : ∀ (h : Nat) (l : List ByteArray) (p : Pl) (sl : Bool), PlOk M p → kindM M p.id ≠ 3 → (goW M u g true h l p sl).err = 0 → PlOk M (goW M u g true h l p sl).pl ∧ kindM M (goW M u g true h l p sl).pl.id ≠ 3 := by
  have key : ∀ (h : Nat), (∀ (i : Int) (r : List ByteArray) (p : Pl) (sl : Bool), PlOk M p → kindM M p.id ≠ 3 → (kOf M u g true h i r p sl).err = 0 → PlOk M (kOf M u g true h i r p sl).pl ∧ kindM M (kOf M u g true h i r p sl).pl.id ≠ 3) → ∀ (l : List ByteArray) (p : Pl) (sl : Bool), PlOk M p → kindM M p.id ≠ 3 → (goW M u g true h l p sl).err = 0 → PlOk M (goW M u g true h l p sl).pl ∧ kindM M (goW M u g true h l p sl).pl.id ≠ 3 := by
    intro h hK l
    induction l with
    | nil =>
      intro p sl hp h3 he
      rw [goW_nil] at he ⊢
      unfold endW at he ⊢
      split at he
      · cases he
      · rename_i q
        rw [if_neg q]
        exact ⟨hp, h3⟩
    | cons s r ih =>
      intro p sl hp h3 he
      rw [goW_cons] at he ⊢
      cases hE : entW M u g p.id s with
      | error e =>
        rw [hE] at he
        exact absurd he (entW_err hE)
      | ok q =>
        rw [hE] at he
        dsimp only at he ⊢
        split at he
        · rename_i ht
          rw [if_pos ht]
          exact hK _ _ _ _ hp h3 he
        · rename_i ht
          rw [if_neg ht]
          refine ih q sl (entW_place H hD hp hE) (fun k3 => ht ?_) he
          rw [thru_true, k3]
          rfl
  intro h
  induction h with
  | zero => exact key 0 (fun i r p sl _ _ he => absurd (show (6 : Int) = 0 from he) (by decide))
  | succ h ih =>
    refine key (h + 1) (fun i r p sl hp h3 he => ?_)
    rw [kOf_succ] at he ⊢
    split at he
    · rename_i hl
      rw [if_pos hl]
      by_cases hb : beginsB (linkT M i) = true
      · rw [if_pos hb] at he ⊢
        exact ih _ _ _ (plOk_root H) (by show kindM M 0 ≠ 3; rw [kind_root H]; decide) he
      · rw [if_neg hb] at he ⊢
        exact ih _ _ _ hp h3 he
    · rename_i hl
      exact absurd he hl

/-- A path of names, each behind a slash. -/
def flatN : List ByteArray → List UInt8
  | [] => []
  | n :: r => 47 :: (n.data.toList ++ flatN r)
def pathOf (ns : List ByteArray) : ByteArray := if ns = [] then mkB [47] else mkB (flatN ns)
theorem flatN_app : ∀ a b, flatN (a ++ b) = flatN a ++ flatN b
  | [], b => rfl
  | n :: r, b => by rw [List.cons_append, flatN, flatN, flatN_app r b]; simp
theorem good_ne {n : ByteArray} (h : goodB n = true) : n.data.toList ≠ [] := fun q => by
  have h1 := (goodB_parts h).1
  have := congrArg List.length q
  rw [size_list, List.length_nil] at this
  omega
theorem mkB_list (l : List UInt8) : (mkB l).data.toList = l := by unfold mkB; simp
theorem ends_path {ns : List ByteArray} {nm : ByteArray} (h : goodB nm = true) : endsB (pathOf (ns ++ [nm])) = false := by
  rw [ends_last]
  unfold pathOf
  rw [if_neg (by simp), mkB_list, flatN_app]
  have e : flatN [nm] = 47 :: nm.data.toList := by rw [flatN, flatN, List.append_nil]
  rw [e, List.getLast?_append]
  cases hl : (47 :: nm.data.toList).getLast? with
  | none => simp at hl
  | some b =>
    show (some b == some 47) = false
    have hm : b ∈ nm.data.toList := by
      rw [List.getLast?_cons_of_ne_nil (good_ne h)] at hl
      exact List.mem_of_getLast? hl
    have := (goodB_parts h).2.2.2.2 b hm
    simpa using this
/-- A place's names. -/
def RealN (M : List Nd) (p : Pl) (ns : List ByteArray) : Prop := (p.name = ⟨#[]⟩ ∧ DirN M p.id ns) ∨ (p.name ≠ ⟨#[]⟩ ∧ ∃ ns0, DirN M p.dir ns0 ∧ ns = ns0 ++ [p.name])
theorem good_name {n : ByteArray} (h : goodB n = true) : n ≠ ⟨#[]⟩ := fun q => by subst q; exact good_ne h rfl
end Go.Proofs.YtknfhphhcnbndaaGreatDoor.V

namespace Go.Proofs.YtknfhphhcnbndaaGreatDoor.V
open Go.Proofs.YtknfhphhcnbndaaGreatDoor.P
open Go.RowKit

theorem walkW_place {M : List Nd} (H : RI M) (hD : DU M) (u g : Int) (s : ByteArray) (he : (walkW M u g s true).err = 0) : PlOk M (walkW M u g s true).pl ∧ kindM M (walkW M u g s true).pl.id ≠ 3 := by
  unfold walkW at he ⊢
  split at he
  · exact absurd (show (2 : Int) = 0 from he) (by decide)
  · rename_i q
    rw [if_neg q]
    split at he
    · exact absurd (show (7 : Int) = 0 from he) (by decide)
    · rename_i q2
      rw [if_neg q2]
      exact walk_place H hD u g 40 _ _ _ (plOk_root H) (by show kindM M 0 ≠ 3; rw [kind_root H]; decide) he

theorem dirN_inv {M : List Nd} {i : Int} {ns : List ByteArray} (h : DirN M i ns) (h0 : i ≠ 0) : ∃ n0 nm e, ns = n0 ++ [nm] ∧ listE M (overI M (upI M i)) = 0 ∧ firstN M i (listL M (overI M (upI M i))) = some (nm, e) ∧ DirN M (overI M (upI M i)) n0 := by
  cases h with
  | root => exact absurd rfl h0
  | step _ hk hl he hd => exact ⟨_, _, _, rfl, hl, he, hd⟩
theorem dirN_kind {M : List Nd} (H : RI M) {i : Int} {ns : List ByteArray} (h : DirN M i ns) : kindM M i = 2 := by
  cases h with
  | root => exact kind_root H
  | step _ hk _ _ _ => exact hk
/-- What is wrong with a real path, on the way upwards. -/
inductive DirEr (M : List Nd) : Int → Int → Prop
  | kind {i : Int} (hk : kindM M i ≠ 2) : DirEr M i 3
  | list {i er : Int} (h0 : i ≠ 0) (hk : kindM M i = 2) (hl : listE M (overI M (upI M i)) = er) (he : er ≠ 0) : DirEr M i er
  | lost {i : Int} (h0 : i ≠ 0) (hk : kindM M i = 2) (hl : listE M (overI M (upI M i)) = 0) (he : firstN M i (listL M (overI M (upI M i))) = none) : DirEr M i 2
  | step {i er : Int} {x : ByteArray × Int} (h0 : i ≠ 0) (hk : kindM M i = 2) (hl : listE M (overI M (upI M i)) = 0) (he : firstN M i (listL M (overI M (upI M i))) = some x) (hd : DirEr M (overI M (upI M i)) er) : DirEr M i er
/-- Upwards: the names that are told of so far, the last one first, and what they lead to. -/
def DirAt (M : List Nd) (id i : Int) (rev : List ByteArray) : Prop := (∀ ns, DirN M i ns → DirN M id (ns ++ rev.reverse)) ∧ (∀ ns, DirN M id ns → ∃ n0, DirN M i n0) ∧ ∀ er, DirEr M i er → DirEr M id er
theorem dirAt_self (M : List Nd) (id : Int) : DirAt M id id [] := ⟨fun ns h => by simpa using h, fun ns h => ⟨ns, h⟩, fun _ h => h⟩
theorem dirAt_step {M : List Nd} {id i : Int} {rev : List ByteArray} {nm : ByteArray} {e : Int} (h : DirAt M id i rev) (h0 : i ≠ 0) (hk : kindM M i = 2) (hl : listE M (overI M (upI M i)) = 0) (he : firstN M i (listL M (overI M (upI M i))) = some (nm, e)) : DirAt M id (overI M (upI M i)) (rev ++ [nm]) := by
  refine ⟨fun ns hn => ?_, fun ns hn => ?_, fun er hr => h.2.2 er (.step h0 hk hl he hr)⟩
  · have := h.1 _ (DirN.step h0 hk hl he hn)
    rw [List.reverse_append, List.reverse_singleton, ← List.append_assoc]
    exact this
  · obtain ⟨n0, q⟩ := h.2.1 ns hn
    obtain ⟨n1, _, _, _, _, _, hd⟩ := dirN_inv q h0
    exact ⟨n1, hd⟩
theorem dirAt_end {M : List Nd} {id : Int} {rev : List ByteArray} (h : DirAt M id 0 rev) : DirN M id rev.reverse := by
  have := h.1 [] DirN.root
  simpa using this
theorem dirAt_no {M : List Nd} {id i : Int} {rev : List ByteArray} (h : DirAt M id i rev) (h0 : i ≠ 0) (hx : listE M (overI M (upI M i)) ≠ 0 ∨ firstN M i (listL M (overI M (upI M i))) = none) : ∀ ns, ¬ DirN M id ns := fun ns hn => by
  obtain ⟨n0, q⟩ := h.2.1 ns hn
  obtain ⟨_, _, _, _, hl, he, _⟩ := dirN_inv q h0
  rcases hx with hx | hx
  · exact hx hl
  · rw [hx] at he
    cases he
theorem atM_nat {M : List Nd} {k : Nat} {n : Nd} (h : M[k]? = some n) : atM M (k : Int) = some n := by
  unfold atM
  rw [if_pos ⟨by omega, by have := (List.getElem?_eq_some_iff.1 h).1; omega⟩, Int.toNat_natCast]
  exact h
theorem kind_nat {M : List Nd} {k : Nat} {n : Nd} (h : M[k]? = some n) : kindM M (k : Int) = n.kind := by
  unfold kindM nvAt
  rw [atM_nat h]
  rfl
theorem kind_lt {M : List Nd} {i : Int} (h : kindM M i = 2) : 0 ≤ i ∧ i < (M.length : Int) := by
  unfold kindM nvAt at h
  cases ha : atM M i with
  | none => rw [ha] at h; exact absurd (show (0 : Int) = 2 from h) (by decide)
  | some n =>
    obtain ⟨k, rfl, hn⟩ := atM_some ha
    have := (List.getElem?_eq_some_iff.1 hn).1
    exact ⟨by omega, by omega⟩
/-- What a directory is found in has a lesser number, and it is found by a good name. -/
theorem step_lt {M : List Nd} (H : RI M) {i a e : Int} {nm : ByteArray} (hk : kindM M i = 2) (he : firstN M i (listL M a) = some (nm, e)) : 0 ≤ a ∧ a < i ∧ goodB nm = true := by
  have hmem := List.mem_of_find?_eq_some he
  have hov : overI M e = i := by simpa using List.find?_some he
  obtain ⟨k, n, rfl, hn, hln⟩ := listL_ents hmem
  have hm2 : (nm, e) ∈ n.ents := by rw [← hln]; exact hmem
  obtain ⟨h0, h1⟩ := H.num k n hn _ hm2
  have hg : goodB nm = true := H.good k n hn _ hm2
  obtain ⟨j, hj⟩ : ∃ j : Nat, e = (j : Int) := ⟨e.toNat, by omega⟩
  subst hj
  obtain ⟨m, hm⟩ : ∃ m, M[j]? = some m := ⟨_, List.getElem?_eq_getElem (by omega)⟩
  have ho : overI M (j : Int) = m.over := by unfold overI; rw [atM_nat hm]
  rw [ho] at hov
  refine ⟨by omega, ?_, hg⟩
  rcases (H.cov j m hm).2 with q | ⟨q2, j2, m2, hj2, hm2', _, hlt⟩
  · have hij : i = (j : Int) := by omega
    rw [hij, kind_nat hm] at hk
    have := H.ord k n hn _ hm2 j m rfl hm hk
    omega
  · have := H.ord k n hn _ hm2 j m rfl hm q2
    omega
theorem dirN_good {M : List Nd} (H : RI M) {i : Int} {ns : List ByteArray} (h : DirN M i ns) : ∀ n ∈ ns, goodB n = true := by
  induction h with
  | root => intro n h; cases h
  | step h0 hk hl he hd ih =>
    intro n hn
    rcases List.mem_append.1 hn with q | q
    · exact ih n q
    · obtain rfl : n = _ := by simpa using q
      exact (step_lt H hk he).2.2
/-- The entries ahead of the first that comes to i don't. -/
theorem first_drop {M : List Nd} {i : Int} {l : List (ByteArray × Int)} {k : Nat} {x : ByteArray × Int} (hx : l[k]? = some x) (h : firstN M i l = firstN M i (l.drop k)) : firstN M i l = if overI M x.2 = i then some x else firstN M i (l.drop (k + 1)) := by
  have hd : l.drop k = x :: l.drop (k + 1) := by
    obtain ⟨hk, rfl⟩ := List.getElem?_eq_some_iff.1 hx
    exact List.drop_eq_getElem_cons hk
  rw [h, hd]
  unfold firstN
  rw [List.find?_cons]
  by_cases q : overI M x.2 = i
  · rw [if_pos q, show (overI M x.2 == i) = true from beq_iff_eq.2 q]
  · rw [if_neg q, show (overI M x.2 == i) = false from beq_eq_false_iff_ne.2 q]

theorem flat_join : ∀ ns : List ByteArray, flatN ns = Lib.joinTail [47] (ns.map fun n => n.data.toList)
  | [] => rfl
  | n :: r => by
    rw [flatN, flat_join r]
    simp [Lib.joinTail]
theorem join_flat (n : ByteArray) (r : List ByteArray) : 47 :: Lib.join ((n :: r).map fun n => n.data.toList) [47] = flatN (n :: r) := by
  rw [List.map_cons, Lib.join_cons, flatN, flat_join]
theorem path_join (ns : List ByteArray) : (⟨#[47]⟩ : ByteArray) ++ (⟨(Lib.join (ns.map fun n => n.data.toList) [47]).toArray⟩ : ByteArray) = pathOf ns := by
  apply ByteArray.ext
  rw [ByteArray.data_append]
  unfold pathOf
  cases ns with
  | nil => rfl
  | cons n r =>
    rw [if_neg (by simp), ← join_flat]
    unfold mkB
    simp
theorem flatN_len : ∀ ns : List ByteArray, (∀ n ∈ ns, goodB n = true) → (flatN ns).length ≤ 256 * ns.length
  | [], _ => Nat.le_refl _
  | n :: r, h => by
    have h1 := (goodB_parts (h n List.mem_cons_self)).2.1
    have h2 := flatN_len r (fun x hx => h x (List.mem_cons_of_mem _ hx))
    rw [flatN, List.length_cons, List.length_append, size_list, List.length_cons]
    omega
theorem path_len {ns : List ByteArray} (h : ∀ n ∈ ns, goodB n = true) : (pathOf ns).size ≤ 256 * ns.length + 1 := by
  have := flatN_len ns h
  rw [← size_list]
  unfold pathOf
  split
  · rw [mkB_list]; simp
  · rw [mkB_list]; omega
theorem join_len {ns : List ByteArray} (h : ∀ n ∈ ns, goodB n = true) : (Lib.join (ns.map fun n => n.data.toList) [47]).length ≤ 256 * ns.length := by
  cases ns with
  | nil => exact Nat.le_refl 0
  | cons n r =>
    have h1 := flatN_len (n :: r) h
    rw [← join_flat, List.length_cons] at h1
    omega
/-- A name behind a directory's real path. -/
theorem path_name {ns : List ByteArray} (h : ∀ n ∈ ns, goodB n = true) (nm : ByteArray) : (⟨(Lib.trimSuffix (pathOf ns).data.toList [47]).toArray⟩ : ByteArray) ++ ⟨#[47]⟩ ++ nm = pathOf (ns ++ [nm]) := by
  apply ByteArray.ext
  rw [ByteArray.data_append, ByteArray.data_append]
  have e2 : pathOf (ns ++ [nm]) = mkB (flatN (ns ++ [nm])) := by unfold pathOf; rw [if_neg (by simp)]
  have e3 : flatN [nm] = 47 :: nm.data.toList := by rw [flatN, flatN, List.append_nil]
  rw [e2, flatN_app, e3]
  have e1 : Lib.trimSuffix (pathOf ns).data.toList [47] = flatN ns := by
    rcases List.eq_nil_or_concat ns with q | ⟨n0, n1, q⟩
    · subst q; decide
    · have hb := ends_path (ns := n0) (h n1 (by rw [q]; simp))
      rw [← List.concat_eq_append, ← q] at hb
      unfold endsB at hb
      unfold Lib.trimSuffix
      rw [hb, if_neg (by decide)]
      unfold pathOf
      rw [if_neg (by rw [q]; simp), mkB_list]
  rw [e1]
  unfold mkB
  apply Array.ext'
  simp
/-- A path as a walk of the law puts it together. -/
theorem path_flat {ns : List ByteArray} (h : ns ≠ []) : pathOf ns = mkB (flatN ns) := by unfold pathOf; rw [if_neg h]
end Go.Proofs.YtknfhphhcnbndaaGreatDoor.V
