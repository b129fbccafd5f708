/-
  What two points behind a path, more slashes, and points between come to in the model's walk. Conditions: each fact's own.
  Real paths in the model: what a directory's names come to, and that a real path is walked to where it was had from. Conditions: each fact's own.
  What real.Dir's loop holds, and how a real path is put together, in the model. Conditions: each fact's own.
-/
import Derived.Test.YtknfhphhcnbndaaGreatDoorGZTabQ
import Derived.Test.YtknfhphhcnbndaaGreatDoorGVAsk
import Derived.Lib.Join
set_option linter.unusedSimpArgs false
set_option linter.unusedVariables false
namespace Go.Proofs.YtknfhphhcnbndaaGreatDoor.V
open Go.Proofs.YtknfhphhcnbndaaGreatDoor.P
open Go.RowKit

def mkB (l : List UInt8) : ByteArray := ⟨l.toArray⟩
/-- What the ways upwards look at. -/
def core (n : Nd) : Int × Int × Int := (n.kind, n.up, n.over)
def kc (C : List (Int × Int × Int)) (j : Int) : Int := if 0 ≤ j ∧ j < (C.length : Int) then ((C[j.toNat]?).map (·.1)).getD 0 else 0
theorem kindM_core (M : List Nd) (j : Int) : kindM M j = kc (M.map core) j := by
  unfold kindM nvAt kc atM
  rw [List.length_map]
  by_cases h : 0 ≤ j ∧ j < (M.length : Int)
  · rw [if_pos h, if_pos h, List.getElem?_map]
    cases hm : M[j.toNat]? with
    | none => rfl
    | some n => rfl
  · rw [if_neg h, if_neg h]
    rfl
def DUc (C : List (Int × Int × Int)) : Prop := ∀ (i : Nat) (u o : Int), C[i]? = some (2, u, o) → kc C u = 2 ∧ kc C o = 2
theorem kc_app {C : List (Int × Int × Int)} (D : List (Int × Int × Int)) {j : Int} (h : kc C j = 2) : kc (C ++ D) j = 2 := by
  unfold kc at h ⊢
  by_cases q : 0 ≤ j ∧ j < (C.length : Int)
  · rw [if_pos q] at h
    rw [if_pos ⟨q.1, by rw [List.length_append]; omega⟩, List.getElem?_append_left (by omega)]
    exact h
  · rw [if_neg q] at h
    cases h
theorem kc_last (C : List (Int × Int × Int)) (x : Int × Int × Int) : kc (C ++ [x]) (C.length : Int) = x.1 := by
  unfold kc
  rw [if_pos ⟨by omega, by simp; omega⟩, Int.toNat_natCast, List.getElem?_append_right (Nat.le_refl _)]
  simp
theorem duc_app {C : List (Int × Int × Int)} {k u : Int} (h : DUc C) (hu : k = 2 → kc C u = 2) : DUc (C ++ [(k, u, (C.length : Int))]) := by
  intro i a o hi
  rw [List.getElem?_append] at hi
  split at hi
  · obtain ⟨h1, h2⟩ := h i a o hi
    exact ⟨kc_app _ h1, kc_app _ h2⟩
  · have : i - C.length = 0 := by
      apply Classical.byContradiction
      intro q
      rw [List.getElem?_eq_none (by simp; omega)] at hi
      cases hi
    rw [this] at hi
    simp at hi
    obtain ⟨rfl, rfl, rfl⟩ := hi
    exact ⟨kc_app _ (hu rfl), kc_last C _⟩
theorem kc_set (C : List (Int × Int × Int)) (i : Nat) (x : Int) (j : Int) : kc (C.modify i (fun t => (t.1, t.2.1, x))) j = kc C j := by
  unfold kc
  rw [List.length_modify]
  split
  · rw [List.getElem?_modify]
    cases hc : C[j.toNat]? with
    | none => rfl
    | some t =>
      by_cases q : i = j.toNat
      · simp [q]
      · simp [q]
  · rfl
theorem duc_set {C : List (Int × Int × Int)} {i : Nat} {x : Int} (h : DUc C) (hx : kc C x = 2) : DUc (C.modify i (fun t => (t.1, t.2.1, x))) := by
  intro k u o hk
  rw [kc_set, kc_set]
  rw [List.getElem?_modify] at hk
  cases hc : C[k]? with
  | none => rw [hc] at hk; cases hk
  | some t =>
    rw [hc] at hk
    obtain ⟨a, b, c⟩ := t
    by_cases q : i = k
    · simp [q] at hk
      obtain ⟨rfl, rfl, rfl⟩ := hk
      exact ⟨(h k b c hc).1, hx⟩
    · simp [q] at hk
      obtain ⟨rfl, rfl, rfl⟩ := hk
      exact h k b c hc
def DU (M : List Nd) : Prop := DUc (M.map core)
theorem core_mod {M : List Nd} {i : Nat} {f : Nd → Nd} (hf : ∀ n, core (f n) = core n) : (M.modify i f).map core = M.map core := by
  apply List.ext_getElem?
  intro j
  rw [List.getElem?_map, List.getElem?_map, List.getElem?_modify]
  cases M[j]? with
  | none => rfl
  | some x =>
    show Option.map core (some (if i = j then f x else x)) = _
    split
    · show some (core (f x)) = _; rw [hf]; rfl
    · rfl
theorem core_app (M : List Nd) (n : Nd) : (M ++ [n]).map core = M.map core ++ [core n] := by rw [List.map_append]; rfl
theorem setNd_core (c : Chg) (n : Nd) : core (setNd c n) = core n := by
  unfold setNd
  repeat' split
  all_goals rfl
theorem refuse_dir {M : Int → Option Nd} {len : Nat} {c : Chg} (h : refuseE M len c = 0) : (0 ≤ c.kind ∧ c.kind ≤ 3 → ∃ x, M c.at_ = some x ∧ x.kind = 2) ∧ (c.kind = 7 → ∃ y, M c.to = some y ∧ y.kind = 2) := by
  unfold refuseE at h
  split at h
  · cases h
  · unfold baseE at h
    constructor
    · intro hk
      rw [if_pos hk] at h
      unfold entryE at h
      cases hx : M c.at_ with
      | none => rw [hx] at h; cases h
      | some x =>
        rw [hx] at h
        dsimp only at h
        by_cases q : x.kind = 2
        · exact ⟨x, rfl, q⟩
        · rw [if_neg q] at h; cases h
    · intro hk
      rw [if_neg (by omega), if_pos (by omega)] at h
      unfold nodeE at h
      cases hx : M c.to with
      | none => rw [hx] at h; cases h
      | some y =>
        rw [hx] at h
        dsimp only at h
        rw [if_neg (by omega), if_pos hk] at h
        by_cases q : y.kind = 2
        · exact ⟨y, rfl, q⟩
        · rw [if_neg q] at h; cases h
theorem kindM_at {M : List Nd} {i : Int} {x : Nd} (h : atM M i = some x) (hk : x.kind = 2) : kc (M.map core) i = 2 := by
  rw [← kindM_core]
  unfold kindM nvAt
  rw [h]
  exact hk
theorem du_built {M : List Nd} {i : Nat} {s : ByteArray} {n : Nd} {d : Int} (h : DU M) (hu : n.kind = 2 → kc (M.map core) n.up = 2) : DU (builtM M i s n d) := by
  unfold builtM DU
  rw [core_mod (f := moreLinks) (fun _ => rfl), core_mod (f := addEnt s (M.length : Int)) (fun _ => rfl), core_app]
  have := duc_app (k := n.kind) (u := n.up) h hu
  rw [List.length_map] at this
  exact this
theorem du_do {M : List Nd} {c : Chg} (h : DU M) : DU (doM M c) := by
  unfold doM
  split
  · rename_i hw
    obtain ⟨r1, r2⟩ := refuse_dir hw
    rcases wrong_cases hw with ⟨x, hx, hk, hl⟩ | ⟨k2, x, y, hx, hy, _⟩ | ⟨k7, hl, y, hy⟩ | ⟨hk, y, hy⟩
    · unfold carryM
      rcases hk with k0 | ⟨k1, _⟩ | k3
      · rw [if_pos k0]
        obtain ⟨x', hx', hd⟩ := r1 (by omega)
        exact du_built h (fun _ => kindM_at hx' hd)
      · rw [if_neg (by omega), if_pos k1]
        exact du_built h (fun e => absurd e (by show ¬ (1 : Int) = 2; omega))
      · rw [if_neg (by omega), if_neg (by omega), if_neg (by omega), if_pos k3]
        exact du_built h (fun e => absurd e (by show ¬ (3 : Int) = 2; omega))
    · unfold carryM
      rw [if_neg (by omega), if_neg (by omega), if_pos k2]
      unfold DU
      dsimp only
      rw [core_mod (f := moreLinks) (fun _ => rfl), core_mod (f := addEnt c.name c.to) (fun _ => rfl)]
      exact h
    · unfold carryM
      rw [if_neg (by omega), if_neg (by omega), if_neg (by omega), if_neg (by omega), if_pos k7]
      obtain ⟨y', hy', hd⟩ := r2 k7
      have hup : kc (M.map core) ((atM M c.to).elim 0 (·.up)) = 2 := by
        rw [hy']
        obtain ⟨j, _, hj⟩ := atM_some hy'
        have hc : (M.map core)[j]? = some (2, y'.up, y'.over) := by rw [List.getElem?_map, hj]; show some (core y') = _; unfold core; rw [hd]
        exact (h j _ _ hc).1
      have h1 := duc_app (k := 2) (u := (atM M c.to).elim 0 (·.up)) h (fun _ => hup)
      unfold coveredM DU
      have e : ((M ++ [addedNd (dirNd (c.a % 4096) ((atM M c.to).elim 0 (·.up))) (((devL M 0).length : Int) + 1) M]).modify c.to.toNat (setOver (M.length : Int))).map core = (M.map core ++ [(2, (atM M c.to).elim 0 (·.up), ((M.map core).length : Int))]).modify c.to.toNat (fun t => (t.1, t.2.1, (M.length : Int))) := by
        rw [List.length_map]
        apply List.ext_getElem?
        intro k
        have ec : M.map core ++ [(2, (atM M c.to).elim 0 (·.up), (M.length : Int))] = (M ++ [addedNd (dirNd (c.a % 4096) ((atM M c.to).elim 0 (·.up))) (((devL M 0).length : Int) + 1) M]).map core := (core_app M (addedNd (dirNd (c.a % 4096) ((atM M c.to).elim 0 (·.up))) (((devL M 0).length : Int) + 1) M)).symm
        rw [List.getElem?_map, List.getElem?_modify, List.getElem?_modify, ec, List.getElem?_map]
        cases hm : (M ++ [addedNd (dirNd (c.a % 4096) ((atM M c.to).elim 0 (·.up))) (((devL M 0).length : Int) + 1) M])[k]? with
        | none => rfl
        | some z =>
          show some (core (if c.to.toNat = k then setOver (M.length : Int) z else z)) = some (if c.to.toNat = k then _ else core z)
          split <;> rfl
      rw [e]
      refine duc_set h1 ?_
      have := kc_last (M.map core) (2, (atM M c.to).elim 0 (·.up), ((M.map core).length : Int))
      rw [List.length_map] at this ⊢
      exact this
    · unfold carryM
      rw [if_neg (by omega), if_neg (by omega), if_neg (by omega), if_neg (by omega), if_neg (by omega)]
      unfold DU
      rw [core_mod (setNd_core c)]
      exact h
  · exact h
theorem du_new : DU newM := by
  intro i u o hi
  match i, hi with
  | 0, hi =>
    have e : (newM.map core)[0]? = some (2, 0, 0) := by decide
    rw [e] at hi
    obtain ⟨rfl, rfl⟩ : u = 0 ∧ o = 0 := by
      have := Option.some.inj hi
      simp only [Prod.mk.injEq, true_and] at this
      exact ⟨this.1.symm, this.2.symm⟩
    exact ⟨by decide, by decide⟩
  | i + 1, hi => simp [newM] at hi
/-- Above a directory there is one, and what covers it. -/
theorem du_up {M : List Nd} (h : DU M) {i : Int} (hi : kindM M i = 2) : kindM M (overI M (upI M i)) = 2 := by
  rw [kindM_core] at hi
  unfold kc at hi
  split at hi
  · rename_i q
    rw [List.length_map] at q
    have hat : ∃ n, M[i.toNat]? = some n := ⟨_, List.getElem?_eq_getElem (by omega)⟩
    obtain ⟨n, hn⟩ := hat
    have ha : atM M i = some n := by unfold atM; rw [if_pos q]; exact hn
    rw [List.getElem?_map, hn] at hi
    have hk : n.kind = 2 := hi
    have hc : (M.map core)[i.toNat]? = some (2, n.up, n.over) := by rw [List.getElem?_map, hn]; show some (core n) = _; unfold core; rw [hk]
    have hu := (h _ _ _ hc).1
    have eu : upI M i = n.up := by unfold upI; rw [ha]
    rw [eu]
    -- the one above
    unfold kc at hu
    split at hu
    · rename_i q2
      rw [List.length_map] at q2
      obtain ⟨m, hm⟩ : ∃ m, M[n.up.toNat]? = some m := ⟨_, List.getElem?_eq_getElem (by omega)⟩
      have hb : atM M n.up = some m := by unfold atM; rw [if_pos q2]; exact hm
      rw [List.getElem?_map, hm] at hu
      have hk2 : m.kind = 2 := hu
      have hc2 : (M.map core)[n.up.toNat]? = some (2, m.up, m.over) := by rw [List.getElem?_map, hm]; show some (core m) = _; unfold core; rw [hk2]
      have eo : overI M n.up = m.over := by unfold overI; rw [hb]
      rw [eo, kindM_core]
      exact (h _ _ _ hc2).2
    · cases hu
  · cases hi

def dd : ByteArray := ⟨#[46, 46]⟩
theorem may_root (M : List Nd) (g i : Int) (hk : kindM M i = 2) : mayB (bitsP (nvAt M i) 0 g) 1 = true := by
  have e : bitsP (nvAt M i) 0 g = 7 := by
    unfold bitsP
    rw [if_pos rfl, if_pos (.inl hk)]
  rw [e]
  decide
theorem thru_true (M : List Nd) (sl : Bool) (r : List ByteArray) (i : Int) : thruW M true sl r i = (kindM M i == 3) := by
  unfold thruW
  simp
theorem kOf_succ (M : List Nd) (u g : Int) (fo : Bool) (h : Nat) (i : Int) (r : List ByteArray) (q : Pl) (sl : Bool) : kOf M u g fo (h + 1) i r q sl = if linkE M i = 0 then goW M u g fo h (namesL (linkT M i) ++ r) (if beginsB (linkT M i) = true then plOf 0 else q) (sl || (endsB (linkT M i) && r.isEmpty)) else bad (linkE M i) := rfl
theorem ends_last (s : ByteArray) : endsB s = (s.data.toList.getLast? == some 47) := by
  unfold endsB Lib.hasSuffix List.isSuffixOf
  generalize s.data.toList = l
  rw [← List.head?_reverse]
  cases l.reverse with
  | nil => rfl
  | cons x r =>
    simp [List.isPrefixOf]
    rw [Bool.eq_iff_iff, beq_iff_eq, beq_iff_eq]
    exact eq_comm
theorem size_list (s : ByteArray) : s.data.toList.length = s.size := by simp
end Go.Proofs.YtknfhphhcnbndaaGreatDoor.V

namespace Go.Proofs.YtknfhphhcnbndaaGreatDoor.V
open Go.Proofs.YtknfhphhcnbndaaGreatDoor.P
open Go.RowKit

theorem mod_at {M : List Nd} {i k : Nat} {f : Nd → Nd} {y : Nd} (h : (M.modify i f)[k]? = some y) : ∃ x, M[k]? = some x ∧ y = if i = k then f x else x := by
  rw [List.getElem?_modify] at h
  cases hm : M[k]? with
  | none => rw [hm] at h; cases h
  | some x =>
    rw [hm] at h
    exact ⟨x, rfl, (Option.some.inj h).symm⟩
theorem mod_fwd {M : List Nd} {i k : Nat} {f : Nd → Nd} {x : Nd} (h : M[k]? = some x) : (M.modify i f)[k]? = some (if i = k then f x else x) := by
  rw [List.getElem?_modify, h]
  rfl
theorem app_at {M : List Nd} {x y : Nd} {k : Nat} (h : (M ++ [x])[k]? = some y) : M[k]? = some y ∨ (k = M.length ∧ y = x) := by
  rcases Nat.lt_or_ge k M.length with q | q
  · rw [List.getElem?_append_left q] at h
    exact .inl h
  · rw [List.getElem?_append_right q] at h
    have h0 : k - M.length = 0 := by
      have := (List.getElem?_eq_some_iff.1 h).1
      simp at this
      omega
    rw [h0] at h
    exact .inr ⟨by omega, (by simpa using h.symm)⟩
/-- What real paths lean on: entries' names are good and differ; directories' entries go up in number; what covers is covered by nothing; there is a root. -/
structure RI (M : List Nd) : Prop where
  good : ∀ (k : Nat) (n : Nd), M[k]? = some n → ∀ e ∈ n.ents, goodB e.1 = true
  one : ∀ (k : Nat) (n : Nd), M[k]? = some n → n.ents.Pairwise (fun a b => sameT a.1 b.1 = false)
  num : ∀ (k : Nat) (n : Nd), M[k]? = some n → ∀ e ∈ n.ents, 0 ≤ e.2 ∧ e.2 < (M.length : Int)
  ord : ∀ (k : Nat) (n : Nd), M[k]? = some n → ∀ e ∈ n.ents, ∀ (j : Nat) (m : Nd), e.2 = (j : Int) → M[j]? = some m → m.kind = 2 → k < j
  cov : ∀ (k : Nat) (n : Nd), M[k]? = some n → (n.ino = 1 → n.over = (k : Int)) ∧ (n.over = (k : Int) ∨ (n.kind = 2 ∧ ∃ (j : Nat) (m : Nd), n.over = (j : Int) ∧ M[j]? = some m ∧ m.ino = 1 ∧ k < j))
  root : ∃ n, M[0]? = some n ∧ n.kind = 2 ∧ n.ino = 1

theorem RI.same {M : List Nd} {i : Nat} {f : Nd → Nd} (H : RI M) (hf : ∀ n, (f n).ents = n.ents ∧ (f n).kind = n.kind ∧ (f n).ino = n.ino ∧ (f n).over = n.over) : RI (M.modify i f) := by
  have e1 : ∀ (k : Nat) (x : Nd), (if i = k then f x else x).ents = x.ents := fun k x => by split; exact (hf x).1; rfl
  have e2 : ∀ (k : Nat) (x : Nd), (if i = k then f x else x).kind = x.kind := fun k x => by split; exact (hf x).2.1; rfl
  have e3 : ∀ (k : Nat) (x : Nd), (if i = k then f x else x).ino = x.ino := fun k x => by split; exact (hf x).2.2.1; rfl
  have e4 : ∀ (k : Nat) (x : Nd), (if i = k then f x else x).over = x.over := fun k x => by split; exact (hf x).2.2.2; rfl
  refine ⟨fun k y hy => ?_, fun k y hy => ?_, fun k y hy => ?_, fun k y hy => ?_, fun k y hy => ?_, ?_⟩
  · obtain ⟨x, hx, rfl⟩ := mod_at hy
    rw [e1]
    exact H.good k x hx
  · obtain ⟨x, hx, rfl⟩ := mod_at hy
    rw [e1]
    exact H.one k x hx
  · obtain ⟨x, hx, rfl⟩ := mod_at hy
    rw [e1, List.length_modify]
    exact H.num k x hx
  · obtain ⟨x, hx, rfl⟩ := mod_at hy
    rw [e1]
    intro e he j m hj hm hk
    obtain ⟨z, hz, rfl⟩ := mod_at hm
    rw [e2] at hk
    exact H.ord k x hx e he j z hj hz hk
  · obtain ⟨x, hx, rfl⟩ := mod_at hy
    rw [e2, e3, e4]
    refine ⟨(H.cov k x hx).1, (H.cov k x hx).2.imp id ?_⟩
    rintro ⟨h2, j, m, hj, hm, hi, hl⟩
    exact ⟨h2, j, _, hj, mod_fwd hm, by rw [e3]; exact hi, hl⟩
  · obtain ⟨n, hn, h1, h2⟩ := H.root
    exact ⟨_, mod_fwd hn, by rw [e2]; exact h1, by rw [e3]; exact h2⟩
theorem RI.app {M : List Nd} {x : Nd} (H : RI M) (he : x.ents = []) (ho : x.over = (M.length : Int)) : RI (M ++ [x]) := by
  refine ⟨fun k y hy => ?_, fun k y hy => ?_, fun k y hy => ?_, fun k y hy => ?_, fun k y hy => ?_, ?_⟩
  · rcases app_at hy with q | ⟨rfl, rfl⟩
    · exact H.good k y q
    · rw [he]; intro e h; cases h
  · rcases app_at hy with q | ⟨rfl, rfl⟩
    · exact H.one k y q
    · rw [he]; exact List.Pairwise.nil
  · rcases app_at hy with q | ⟨rfl, rfl⟩
    · intro e h
      have := H.num k y q e h
      rw [List.length_append]
      exact ⟨this.1, by have := this.2; simp; omega⟩
    · rw [he]; intro e h; cases h
  · rcases app_at hy with q | ⟨rfl, rfl⟩
    · intro e h j m hj hm hk
      have hlt := (H.num k y q e h).2
      rcases app_at hm with z | ⟨z, _⟩
      · exact H.ord k y q e h j m hj z hk
      · omega
    · rw [he]; intro e h; cases h
  · rcases app_at hy with q | ⟨rfl, rfl⟩
    · refine ⟨(H.cov k y q).1, (H.cov k y q).2.imp id ?_⟩
      rintro ⟨h2, j, m, hj, hm, hi, hl⟩
      exact ⟨h2, j, m, hj, app_left hm, hi, hl⟩
    · exact ⟨fun _ => ho, .inl ho⟩
  · obtain ⟨n, hn, h1, h2⟩ := H.root
    exact ⟨n, app_left hn, h1, h2⟩
theorem RI.enter {M : List Nd} {i j : Nat} {s : ByteArray} {d : Nd} (H : RI M) (hd : M[i]? = some d) (hg : goodB s = true) (hh : hasEnt s d.ents = false) (hj : j < M.length) (ho : ∀ m, M[j]? = some m → m.kind = 2 → i < j) : RI (M.modify i (addEnt s (j : Int))) := by
  have e2 : ∀ (k : Nat) (x : Nd), (if i = k then addEnt s (j : Int) x else x).kind = x.kind := fun k x => by split <;> rfl
  have e3 : ∀ (k : Nat) (x : Nd), (if i = k then addEnt s (j : Int) x else x).ino = x.ino := fun k x => by split <;> rfl
  have e4 : ∀ (k : Nat) (x : Nd), (if i = k then addEnt s (j : Int) x else x).over = x.over := fun k x => by split <;> rfl
  have em : ∀ (k : Nat) (x : Nd) e, e ∈ (if i = k then addEnt s (j : Int) x else x).ents → e ∈ x.ents ∨ (i = k ∧ e = (s, (j : Int))) := fun k x e he => by
    split at he
    · rename_i q
      have he : e ∈ x.ents ++ [(s, (j : Int))] := he
      rcases List.mem_append.1 he with z | z
      · exact .inl z
      · exact .inr ⟨q, by simpa using z⟩
    · exact .inl he
  refine ⟨fun k y hy => ?_, fun k y hy => ?_, fun k y hy => ?_, fun k y hy => ?_, fun k y hy => ?_, ?_⟩
  · obtain ⟨x, hx, rfl⟩ := mod_at hy
    intro e he
    rcases em k x e he with q | ⟨_, rfl⟩
    · exact H.good k x hx e q
    · exact hg
  · obtain ⟨x, hx, rfl⟩ := mod_at hy
    split
    · rename_i q
      subst q
      rw [hd] at hx
      obtain rfl := Option.some.inj hx
      show (d.ents ++ [(s, (j : Int))]).Pairwise _
      refine List.pairwise_append.2 ⟨H.one i d hd, List.pairwise_singleton _ _, fun a ha b hb => ?_⟩
      obtain rfl : b = (s, (j : Int)) := by simpa using hb
      unfold hasEnt at hh
      exact Bool.eq_false_iff.2 (fun q => by rw [List.any_eq_true.2 ⟨a, ha, q⟩] at hh; cases hh)
    · exact H.one k x hx
  · obtain ⟨x, hx, rfl⟩ := mod_at hy
    intro e he
    rw [List.length_modify]
    rcases em k x e he with q | ⟨_, rfl⟩
    · exact H.num k x hx e q
    · exact ⟨by omega, by omega⟩
  · obtain ⟨x, hx, rfl⟩ := mod_at hy
    intro e he j' m hj' hm hk
    obtain ⟨z, hz, rfl⟩ := mod_at hm
    rw [e2] at hk
    rcases em k x e he with q | ⟨q, rfl⟩
    · exact H.ord k x hx e q j' z hj' hz hk
    · subst q
      obtain rfl : j = j' := by
        have : (j : Int) = (j' : Int) := hj'
        omega
      exact ho z hz hk
  · obtain ⟨x, hx, rfl⟩ := mod_at hy
    rw [e2, e3, e4]
    refine ⟨(H.cov k x hx).1, (H.cov k x hx).2.imp id ?_⟩
    rintro ⟨h2, j', m, hj', hm, hi, hl⟩
    exact ⟨h2, j', _, hj', mod_fwd hm, by rw [e3]; exact hi, hl⟩
  · obtain ⟨n, hn, h1, h2⟩ := H.root
    exact ⟨_, mod_fwd hn, by rw [e2]; exact h1, by rw [e3]; exact h2⟩
theorem RI.cover {M : List Nd} {i : Nat} {x y : Nd} (H : RI M) (he : x.ents = []) (ho : x.over = (M.length : Int)) (hx1 : x.ino = 1) (hy : M[i]? = some y) (hk : y.kind = 2) (hn : y.ino ≠ 1) : RI ((M ++ [x]).modify i (setOver (M.length : Int))) := by
  have H' := H.app he ho
  have hi := (List.getElem?_eq_some_iff.1 hy).1
  have e1 : ∀ (k : Nat) (z : Nd), (if i = k then setOver (M.length : Int) z else z).ents = z.ents := fun k z => by split <;> rfl
  have e2 : ∀ (k : Nat) (z : Nd), (if i = k then setOver (M.length : Int) z else z).kind = z.kind := fun k z => by split <;> rfl
  have e3 : ∀ (k : Nat) (z : Nd), (if i = k then setOver (M.length : Int) z else z).ino = z.ino := fun k z => by split <;> rfl
  refine ⟨fun k n hnn => ?_, fun k n hnn => ?_, fun k n hnn => ?_, fun k n hnn => ?_, fun k n hnn => ?_, ?_⟩
  · obtain ⟨z, hz, rfl⟩ := mod_at hnn
    rw [e1]
    exact H'.good k z hz
  · obtain ⟨z, hz, rfl⟩ := mod_at hnn
    rw [e1]
    exact H'.one k z hz
  · obtain ⟨z, hz, rfl⟩ := mod_at hnn
    rw [e1, List.length_modify]
    exact H'.num k z hz
  · obtain ⟨z, hz, rfl⟩ := mod_at hnn
    rw [e1]
    intro e hee j m hj hm hkk
    obtain ⟨u, hu, rfl⟩ := mod_at hm
    rw [e2] at hkk
    exact H'.ord k z hz e hee j u hj hu hkk
  · obtain ⟨z, hz, rfl⟩ := mod_at hnn
    rw [e2, e3]
    by_cases q : i = k
    · subst q
      rw [if_pos rfl]
      rcases app_at hz with w | ⟨w, _⟩
      · rw [hy] at w
        obtain rfl := Option.some.inj w
        refine ⟨fun w => absurd w hn, .inr ⟨hk, M.length, _, rfl, mod_fwd (app_last M x), ?_, hi⟩⟩
        rw [e3]
        exact hx1
      · omega
    · rw [if_neg q]
      refine ⟨(H'.cov k z hz).1, (H'.cov k z hz).2.imp id ?_⟩
      rintro ⟨h2, j, m, hj, hm, h1, hl⟩
      exact ⟨h2, j, _, hj, mod_fwd hm, by rw [e3]; exact h1, hl⟩
  · obtain ⟨n, hnn, h1, h2⟩ := H'.root
    exact ⟨_, mod_fwd hnn, by rw [e2]; exact h1, by rw [e3]; exact h2⟩

theorem wrong_entry {M : List Nd} {c : Chg} (h : wrongM M c = 0) (k0 : 0 ≤ c.kind) (k3 : c.kind < 4) : ∃ x, atM M c.at_ = some x ∧ x.kind = 2 ∧ goodB c.name = true ∧ hasEnt c.name x.ents = false := by
  unfold wrongM refuseE at h
  split at h
  · cases h
  · rename_i hno
    unfold baseE at h
    rw [if_pos ⟨k0, by omega⟩] at h
    unfold entryE at h
    cases hx : atM M c.at_ with
    | none => rw [hx] at h; cases h
    | some x =>
      rw [hx] at h
      dsimp only at h
      split at h
      · rename_i q
        split at h
        · rename_i g
          split at h
          · cases h
          · rename_i e
            exact ⟨x, rfl, q, g, Bool.eq_false_iff.2 e⟩
        · cases h
      · cases h
theorem wrong_mount {M : List Nd} {c : Chg} (h : wrongM M c = 0) (k7 : c.kind = 7) : ∃ y, atM M c.to = some y ∧ y.kind = 2 ∧ y.over = c.to ∧ y.ino ≠ 1 := by
  unfold wrongM refuseE at h
  split at h
  · cases h
  · unfold baseE at h
    rw [if_neg (by omega), if_pos (by omega)] at h
    unfold nodeE at h
    cases hy : atM M c.to with
    | none => rw [hy] at h; cases h
    | some y =>
      rw [hy] at h
      dsimp only at h
      rw [if_neg (by omega), if_pos k7] at h
      split at h
      · rename_i q
        split at h
        · cases h
        · rename_i z
          exact ⟨y, rfl, q, Classical.byContradiction fun w => z (.inl w), fun w => z (.inr w)⟩
      · cases h
theorem cnt_new {M : List Nd} (H : DevInv M) {d : Int} (hd : ((devL M 0).length : Int) < d) : cntD d M = 0 := by
  have : ∀ l : List Nd, (∀ n ∈ l, n.dev ≠ d) → cntD d l = 0 := fun l => by
    induction l with
    | nil => intro _; rfl
    | cons n r ih => intro h; rw [cntD, if_neg (h n List.mem_cons_self), ih (fun x hx => h x (List.mem_cons_of_mem _ hx))]; rfl
  refine this M (fun n hn e => ?_)
  obtain ⟨k, hk⟩ := List.mem_iff_getElem?.1 hn
  have := (H k n hk).2.1
  omega
theorem RI.built {M : List Nd} {i : Nat} {s : ByteArray} {n d : Nd} {dev : Int} (H : RI M) (hd : M[i]? = some d) (hg : goodB s = true) (hh : hasEnt s d.ents = false) (he : n.ents = []) : RI (builtM M i s n dev) := by
  unfold builtM
  have hi := (List.getElem?_eq_some_iff.1 hd).1
  refine RI.same ?_ (fun n => ⟨rfl, rfl, rfl, rfl⟩)
  refine RI.enter (H.app he rfl) (app_left hd) hg hh (by simp) (fun m hm hk => hi)
theorem RI.do_ {M : List Nd} {c : Chg} (H : RI M) (hD : DevInv M) : RI (doM M c) := by
  unfold doM
  split
  · rename_i hw
    have hat : ∀ (_ : 0 ≤ c.kind) (_ : c.kind < 4), ∃ x, M[c.at_.toNat]? = some x ∧ x.kind = 2 ∧ goodB c.name = true ∧ hasEnt c.name x.ents = false := fun k0 k3 => by
      obtain ⟨x, hx, h1, h2, h3⟩ := wrong_entry hw k0 k3
      obtain ⟨i, hi, hxi⟩ := atM_some hx
      exact ⟨x, by rw [hi, Int.toNat_natCast]; exact hxi, h1, h2, h3⟩
    unfold carryM
    split
    · obtain ⟨x, hx, h1, h2, h3⟩ := hat (by omega) (by omega)
      exact H.built hx h2 h3 rfl
    · split
      · obtain ⟨x, hx, h1, h2, h3⟩ := hat (by omega) (by omega)
        exact H.built hx h2 h3 rfl
      · split
        · rename_i k2
          obtain ⟨x, hx, h1, h2, h3⟩ := hat (by omega) (by omega)
          rcases wrong_cases hw with ⟨_, _, q, _⟩ | ⟨_, x', y, _, hy, hyk⟩ | ⟨q, _⟩ | ⟨q, _⟩
          · omega
          · obtain ⟨j, hj, hyj⟩ := atM_some hy
            refine RI.same ?_ (fun n => ⟨rfl, rfl, rfl, rfl⟩)
            rw [hj]
            exact H.enter hx h2 h3 (List.getElem?_eq_some_iff.1 hyj).1 (fun m hm hk => by rw [hyj] at hm; obtain rfl := Option.some.inj hm; exact absurd hk hyk)
          · omega
          · omega
        · split
          · obtain ⟨x, hx, h1, h2, h3⟩ := hat (by omega) (by omega)
            exact H.built hx h2 h3 rfl
          · split
            · rename_i k7
              obtain ⟨y, hy, h1, h2, h3⟩ := wrong_mount hw k7
              obtain ⟨j, hj, hyj⟩ := atM_some hy
              unfold coveredM
              refine H.cover rfl rfl ?_ (y := y) (by rw [hj, Int.toNat_natCast]; exact hyj) h1 h3
              show 1 + cntD _ M = 1
              rw [cnt_new hD (by omega)]
              rfl
            · refine H.same (fun n => ?_)
              unfold setNd
              repeat' split
              all_goals exact ⟨rfl, rfl, rfl, rfl⟩
  · exact H
theorem ri_new : RI newM := by
  have h0 : ∀ (k : Nat) (n : Nd), newM[k]? = some n → k = 0 ∧ n = addedNd (dirNd 493 0) 1 [] := fun k n h => by
    have hk : k = 0 := by
      have := (List.getElem?_eq_some_iff.1 h).1
      simp [newM] at this
      exact this
    subst hk
    exact ⟨rfl, by simpa [newM] using h.symm⟩
  refine ⟨fun k n h => ?_, fun k n h => ?_, fun k n h => ?_, fun k n h => ?_, fun k n h => ?_, ⟨_, rfl, rfl, rfl⟩⟩
  · obtain ⟨rfl, rfl⟩ := h0 k n h; intro e he; cases he
  · obtain ⟨rfl, rfl⟩ := h0 k n h; exact List.Pairwise.nil
  · obtain ⟨rfl, rfl⟩ := h0 k n h; intro e he; cases he
  · obtain ⟨rfl, rfl⟩ := h0 k n h; intro e he; cases he
  · obtain ⟨rfl, rfl⟩ := h0 k n h; exact ⟨fun _ => rfl, .inl rfl⟩
theorem over_over {M : List Nd} (H : RI M) (i : Int) : overI M (overI M i) = overI M i := by
  cases ha : atM M i with
  | none =>
    have e : overI M i = i := by unfold overI; rw [ha]
    rw [e, e]
  | some n =>
    obtain ⟨k, hk, hn⟩ := atM_some ha
    have e : overI M i = n.over := by unfold overI; rw [ha]
    rcases (H.cov k n hn).2 with h | ⟨_, j, m, hj, hm, h1, _⟩
    · rw [e, h, ← hk, e, h, hk]
    · have hat : atM M (j : Int) = some m := by
        unfold atM
        rw [if_pos ⟨by omega, by have := (List.getElem?_eq_some_iff.1 hm).1; omega⟩, Int.toNat_natCast]
        exact hm
      have e2 : overI M (j : Int) = m.over := by unfold overI; rw [hat]
      rw [e, hj, e2, (H.cov j m hm).1 h1]
theorem over_root {M : List Nd} (H : RI M) : overI M 0 = 0 := by
  obtain ⟨n, hn, _, h1⟩ := H.root
  have hat : atM M 0 = some n := by
    unfold atM
    rw [if_pos ⟨by omega, by have := (List.getElem?_eq_some_iff.1 hn).1; omega⟩]
    exact hn
  unfold overI
  rw [hat]
  exact (H.cov 0 n hn).1 h1
theorem kind_root {M : List Nd} (H : RI M) : kindM M 0 = 2 := by
  obtain ⟨n, hn, h2, _⟩ := H.root
  have hat : atM M 0 = some n := by
    unfold atM
    rw [if_pos ⟨by omega, by have := (List.getElem?_eq_some_iff.1 hn).1; omega⟩]
    exact hn
  unfold kindM nvAt
  rw [hat]
  exact h2
theorem sameT_eq {a b : ByteArray} (h : sameT a b = true) : a = b := by
  unfold sameT at h
  have h : a.toList = b.toList := by simpa using h
  rw [Go.Lib.toList_data, Go.Lib.toList_data] at h
  exact ByteArray.ext (Array.toList_inj.1 h)
theorem findE_mem : ∀ {l : List (ByteArray × Int)} {s : ByteArray} {e : Int}, findE s l = some e → (s, e) ∈ l
  | [], s, e, h => by cases h
  | x :: r, s, e, h => by
    rw [findE] at h
    split at h
    · rename_i q
      have := sameT_eq q
      obtain ⟨a, b⟩ := x
      obtain rfl : a = s := this
      obtain rfl : b = e := Option.some.inj h
      exact List.mem_cons_self
    · exact List.mem_cons_of_mem _ (findE_mem h)
theorem listL_ents {M : List Nd} {i : Int} {x : ByteArray × Int} (h : x ∈ listL M i) : ∃ (k : Nat) (n : Nd), i = (k : Int) ∧ M[k]? = some n ∧ listL M i = n.ents := by
  cases ha : atM M i with
  | none =>
    unfold listL at h
    rw [ha] at h
    cases h
  | some n =>
    obtain ⟨k, hk, hn⟩ := atM_some ha
    refine ⟨k, n, hk, hn, ?_⟩
    unfold listL at h ⊢
    rw [ha] at h ⊢
    dsimp only at h ⊢
    split
    · rename_i q
      rw [if_pos q] at h
      split
      · rename_i z
        rw [if_pos z] at h
        cases h
      · rfl
    · rename_i q
      rw [if_neg q] at h
      cases h

/-- The first entry of a node. -/
def firstN (M : List Nd) (i : Int) (l : List (ByteArray × Int)) : Option (ByteArray × Int) := l.find? fun x => overI M x.2 == i
/-- A directory's names, from the root on. -/
inductive DirN (M : List Nd) : Int → List ByteArray → Prop
  | root : DirN M 0 []
  | step {i : Int} {ns : List ByteArray} {nm : ByteArray} {e : Int} (h0 : i ≠ 0) (hk : kindM M i = 2) (hl : listE M (overI M (upI M i)) = 0) (he : firstN M i (listL M (overI M (upI M i))) = some (nm, e)) (hd : DirN M (overI M (upI M i)) ns) : DirN M i (ns ++ [nm])
theorem dirN_det {M : List Nd} : ∀ {i : Int} {a b : List ByteArray}, DirN M i a → DirN M i b → a = b := by
  intro i a b h
  induction h generalizing b with
  | root =>
    intro h2
    cases h2 with
    | root => rfl
    | step h0 => exact absurd rfl h0
  | step h0 hk hl he hd ih =>
    intro h2
    cases h2 with
    | root => exact absurd rfl h0
    | step h0' hk' hl' he' hd' =>
      rw [he] at he'
      have := Option.some.inj he'
      rw [ih hd', (Prod.mk.inj this).1]
theorem goodB_parts {s : ByteArray} (h : goodB s = true) : 1 ≤ s.size ∧ s.size ≤ 255 ∧ s.toList ≠ [46] ∧ s.toList ≠ [46, 46] ∧ ∀ b ∈ s.data.toList, b ≠ 47 := by
  unfold goodB at h
  simp only [Bool.and_eq_true, decide_eq_true_eq, Bool.not_eq_true', beq_eq_false_iff_ne, decide_eq_false_iff_not] at h
  obtain ⟨h1, h2, h3, h4, h5⟩ := h
  refine ⟨h1, h2, h3, h4, fun b hb q => h5 ?_⟩
  subst q
  have key : ∀ l : List UInt8, (47 : UInt8) ∈ l → 0 ≤ Lib.indexAny l hardL := fun l => by
    induction l with
    | nil => intro h; cases h
    | cons x r ih =>
      intro h
      rw [Lib.indexAny]
      split
      · exact Int.le_refl _
      · rename_i hx
        have hr : (47 : UInt8) ∈ r := by
          rcases List.mem_cons.1 h with e | e
          · subst e; exact absurd (by decide) hx
          · exact e
        have := ih hr
        rw [if_neg (by intro z; have := beq_iff_eq.1 z; omega)]
        omega
  exact key _ hb
/-- What a walk's place is. -/
def PlOk (M : List Nd) (p : Pl) : Prop := overI M p.id = p.id ∧ ((p.name = ⟨#[]⟩ ∧ p.dir = p.id ∧ kindM M p.id = 2) ∨ (overI M p.dir = p.dir ∧ kindM M p.dir = 2 ∧ listE M p.dir = 0 ∧ goodB p.name = true ∧ ∃ e, findE p.name (listL M p.dir) = some e ∧ overI M e = p.id))
theorem plOk_root {M : List Nd} (H : RI M) : PlOk M (plOf 0) := ⟨over_root H, .inl ⟨rfl, rfl, kind_root H⟩⟩
theorem entW_place {M : List Nd} (H : RI M) (hD : DU M) {u g : Int} {p q : Pl} {s : ByteArray} (hp : PlOk M p) (h : entW M u g p.id s = .ok q) : PlOk M q := by
  unfold entW at h
  split at h
  · rename_i hk
    split at h
    · split at h
      · split at h
        · obtain rfl : plOf p.id = q := Except.ok.inj h
          exact ⟨hp.1, .inl ⟨rfl, rfl, hk⟩⟩
        · split at h
          · obtain rfl : plOf (overI M (upI M p.id)) = q := Except.ok.inj h
            exact ⟨over_over H _, .inl ⟨rfl, rfl, du_up hD hk⟩⟩
          · split at h
            · rename_i hl
              split at h
              · cases h
              · rename_i e he
                obtain rfl : (⟨overI M e, p.id, s⟩ : Pl) = q := Except.ok.inj h
                have hm := findE_mem he
                obtain ⟨k, n, _, hn, hln⟩ := listL_ents hm
                exact ⟨over_over H _, .inr ⟨hp.1, hk, hl, H.good k n hn (s, e) (by rw [← hln]; exact hm), e, he, rfl⟩⟩
            · cases h
      · cases h
    · cases h
  · cases h
theorem walk_place {M : List Nd} (H : RI M) (hD : DU M) (u g : Int) : ∀ (h : Nat) (l : List ByteArray) (p : Pl) (sl : Bool), PlOk M p → kindM M p.id ≠ 3 → (goW M u g true h l p sl).err = 0 → PlOk M (goW M u g true h l p sl).pl ∧ kindM M (goW M u g true h l p sl).pl.id ≠ 3 := by
  have key : ∀ (h : Nat), (∀ (i : Int) (r : List ByteArray) (p : Pl) (sl : Bool), PlOk M p → kindM M p.id ≠ 3 → (kOf M u g true h i r p sl).err = 0 → PlOk M (kOf M u g true h i r p sl).pl ∧ kindM M (kOf M u g true h i r p sl).pl.id ≠ 3) → ∀ (l : List ByteArray) (p : Pl) (sl : Bool), PlOk M p → kindM M p.id ≠ 3 → (goW M u g true h l p sl).err = 0 → PlOk M (goW M u g true h l p sl).pl ∧ kindM M (goW M u g true h l p sl).pl.id ≠ 3 := by
    intro h hK l
    induction l with
    | nil =>
      intro p sl hp h3 he
      rw [goW_nil] at he ⊢
      unfold endW at he ⊢
      split at he
      · cases he
      · rename_i q
        rw [if_neg q]
        exact ⟨hp, h3⟩
    | cons s r ih =>
      intro p sl hp h3 he
      rw [goW_cons] at he ⊢
      cases hE : entW M u g p.id s with
      | error e =>
        rw [hE] at he
        exact absurd he (entW_err hE)
      | ok q =>
        rw [hE] at he
        dsimp only at he ⊢
        split at he
        · rename_i ht
          rw [if_pos ht]
          exact hK _ _ _ _ hp h3 he
        · rename_i ht
          rw [if_neg ht]
          refine ih q sl (entW_place H hD hp hE) (fun k3 => ht ?_) he
          rw [thru_true, k3]
          rfl
  intro h
  induction h with
  | zero => exact key 0 (fun i r p sl _ _ he => absurd (show (6 : Int) = 0 from he) (by decide))
  | succ h ih =>
    refine key (h + 1) (fun i r p sl hp h3 he => ?_)
    rw [kOf_succ] at he ⊢
    split at he
    · rename_i hl
      rw [if_pos hl]
      by_cases hb : beginsB (linkT M i) = true
      · rw [if_pos hb] at he ⊢
        exact ih _ _ _ (plOk_root H) (by show kindM M 0 ≠ 3; rw [kind_root H]; decide) he
      · rw [if_neg hb] at he ⊢
        exact ih _ _ _ hp h3 he
    · rename_i hl
      exact absurd he hl

/-- A path of names, each behind a slash. -/
def flatN : List ByteArray → List UInt8
  | [] => []
  | n :: r => 47 :: (n.data.toList ++ flatN r)
def pathOf (ns : List ByteArray) : ByteArray := if ns = [] then mkB [47] else mkB (flatN ns)
theorem flatN_app : ∀ a b, flatN (a ++ b) = flatN a ++ flatN b
  | [], b => rfl
  | n :: r, b => by rw [List.cons_append, flatN, flatN, flatN_app r b]; simp
theorem good_ne {n : ByteArray} (h : goodB n = true) : n.data.toList ≠ [] := fun q => by
  have h1 := (goodB_parts h).1
  have := congrArg List.length q
  rw [size_list, List.length_nil] at this
  omega
theorem mkB_list (l : List UInt8) : (mkB l).data.toList = l := by unfold mkB; simp
theorem ends_path {ns : List ByteArray} {nm : ByteArray} (h : goodB nm = true) : endsB (pathOf (ns ++ [nm])) = false := by
  rw [ends_last]
  unfold pathOf
  rw [if_neg (by simp), mkB_list, flatN_app]
  have e : flatN [nm] = 47 :: nm.data.toList := by rw [flatN, flatN, List.append_nil]
  rw [e, List.getLast?_append]
  cases hl : (47 :: nm.data.toList).getLast? with
  | none => simp at hl
  | some b =>
    show (some b == some 47) = false
    have hm : b ∈ nm.data.toList := by
      rw [List.getLast?_cons_of_ne_nil (good_ne h)] at hl
      exact List.mem_of_getLast? hl
    have := (goodB_parts h).2.2.2.2 b hm
    simpa using this
/-- A place's names. -/
def RealN (M : List Nd) (p : Pl) (ns : List ByteArray) : Prop := (p.name = ⟨#[]⟩ ∧ DirN M p.id ns) ∨ (p.name ≠ ⟨#[]⟩ ∧ ∃ ns0, DirN M p.dir ns0 ∧ ns = ns0 ++ [p.name])
theorem good_name {n : ByteArray} (h : goodB n = true) : n ≠ ⟨#[]⟩ := fun q => by subst q; exact good_ne h rfl
end Go.Proofs.YtknfhphhcnbndaaGreatDoor.V

namespace Go.Proofs.YtknfhphhcnbndaaGreatDoor.V
open Go.Proofs.YtknfhphhcnbndaaGreatDoor.P
open Go.RowKit

theorem walkW_place {M : List Nd} (H : RI M) (hD : DU M) (u g : Int) (s : ByteArray) (he : (walkW M u g s true).err = 0) : PlOk M (walkW M u g s true).pl ∧ kindM M (walkW M u g s true).pl.id ≠ 3 := by
  unfold walkW at he ⊢
  split at he
  · exact absurd (show (2 : Int) = 0 from he) (by decide)
  · rename_i q
    rw [if_neg q]
    split at he
    · exact absurd (show (7 : Int) = 0 from he) (by decide)
    · rename_i q2
      rw [if_neg q2]
      exact walk_place H hD u g 40 _ _ _ (plOk_root H) (by show kindM M 0 ≠ 3; rw [kind_root H]; decide) he

theorem dirN_inv {M : List Nd} {i : Int} {ns : List ByteArray} (h : DirN M i ns) (h0 : i ≠ 0) : ∃ n0 nm e, ns = n0 ++ [nm] ∧ listE M (overI M (upI M i)) = 0 ∧ firstN M i (listL M (overI M (upI M i))) = some (nm, e) ∧ DirN M (overI M (upI M i)) n0 := by
  cases h with
  | root => exact absurd rfl h0
  | step _ hk hl he hd => exact ⟨_, _, _, rfl, hl, he, hd⟩
theorem dirN_kind {M : List Nd} (H : RI M) {i : Int} {ns : List ByteArray} (h : DirN M i ns) : kindM M i = 2 := by
  cases h with
  | root => exact kind_root H
  | step _ hk _ _ _ => exact hk
/-- What is wrong with a real path, on the way upwards. -/
inductive DirEr (M : List Nd) : Int → Int → Prop
  | kind {i : Int} (hk : kindM M i ≠ 2) : DirEr M i 3
  | list {i er : Int} (h0 : i ≠ 0) (hk : kindM M i = 2) (hl : listE M (overI M (upI M i)) = er) (he : er ≠ 0) : DirEr M i er
  | lost {i : Int} (h0 : i ≠ 0) (hk : kindM M i = 2) (hl : listE M (overI M (upI M i)) = 0) (he : firstN M i (listL M (overI M (upI M i))) = none) : DirEr M i 2
  | step {i er : Int} {x : ByteArray × Int} (h0 : i ≠ 0) (hk : kindM M i = 2) (hl : listE M (overI M (upI M i)) = 0) (he : firstN M i (listL M (overI M (upI M i))) = some x) (hd : DirEr M (overI M (upI M i)) er) : DirEr M i er
theorem dirEr_det {M : List Nd} {i a b : Int} (h : DirEr M i a) : DirEr M i b → a = b := by
  induction h with
  | kind hk => intro k; cases k with
    | kind _ => rfl
    | list _ h => exact absurd h hk
    | lost _ h => exact absurd h hk
    | step _ h => exact absurd h hk
  | list h0 hk hl he => intro k; cases k with
    | kind h => exact absurd hk h
    | list _ _ h => exact hl.symm.trans h
    | lost _ _ h => exact absurd (hl.symm.trans h) he
    | step _ _ h => exact absurd (hl.symm.trans h) he
  | lost h0 hk hl he => intro k; cases k with
    | kind h => exact absurd hk h
    | list _ _ h h2 => exact absurd (h.symm.trans hl) h2
    | lost => rfl
    | step _ _ _ h => rw [he] at h; cases h
  | step h0 hk hl he hd ih => intro k; cases k with
    | kind h => exact absurd hk h
    | list _ _ h h2 => exact absurd (h.symm.trans hl) h2
    | lost _ _ _ h => rw [he] at h; cases h
    | step _ _ _ _ h => exact ih h
/-- Upwards: the names that are told of so far, the last one first, and what they lead to. -/
def DirAt (M : List Nd) (id i : Int) (rev : List ByteArray) : Prop := (∀ ns, DirN M i ns → DirN M id (ns ++ rev.reverse)) ∧ (∀ ns, DirN M id ns → ∃ n0, DirN M i n0) ∧ ∀ er, DirEr M i er → DirEr M id er
theorem dirAt_self (M : List Nd) (id : Int) : DirAt M id id [] := ⟨fun ns h => by simpa using h, fun ns h => ⟨ns, h⟩, fun _ h => h⟩
theorem dirAt_step {M : List Nd} {id i : Int} {rev : List ByteArray} {nm : ByteArray} {e : Int} (h : DirAt M id i rev) (h0 : i ≠ 0) (hk : kindM M i = 2) (hl : listE M (overI M (upI M i)) = 0) (he : firstN M i (listL M (overI M (upI M i))) = some (nm, e)) : DirAt M id (overI M (upI M i)) (rev ++ [nm]) := by
  refine ⟨fun ns hn => ?_, fun ns hn => ?_, fun er hr => h.2.2 er (.step h0 hk hl he hr)⟩
  · have := h.1 _ (DirN.step h0 hk hl he hn)
    rw [List.reverse_append, List.reverse_singleton, ← List.append_assoc]
    exact this
  · obtain ⟨n0, q⟩ := h.2.1 ns hn
    obtain ⟨n1, _, _, _, _, _, hd⟩ := dirN_inv q h0
    exact ⟨n1, hd⟩
theorem dirAt_end {M : List Nd} {id : Int} {rev : List ByteArray} (h : DirAt M id 0 rev) : DirN M id rev.reverse := by
  have := h.1 [] DirN.root
  simpa using this
theorem dirAt_no {M : List Nd} {id i : Int} {rev : List ByteArray} (h : DirAt M id i rev) (h0 : i ≠ 0) (hx : listE M (overI M (upI M i)) ≠ 0 ∨ firstN M i (listL M (overI M (upI M i))) = none) : ∀ ns, ¬ DirN M id ns := fun ns hn => by
  obtain ⟨n0, q⟩ := h.2.1 ns hn
  obtain ⟨_, _, _, _, hl, he, _⟩ := dirN_inv q h0
  rcases hx with hx | hx
  · exact hx hl
  · rw [hx] at he
    cases he
theorem atM_nat {M : List Nd} {k : Nat} {n : Nd} (h : M[k]? = some n) : atM M (k : Int) = some n := by
  unfold atM
  rw [if_pos ⟨by omega, by have := (List.getElem?_eq_some_iff.1 h).1; omega⟩, Int.toNat_natCast]
  exact h
theorem kind_nat {M : List Nd} {k : Nat} {n : Nd} (h : M[k]? = some n) : kindM M (k : Int) = n.kind := by
  unfold kindM nvAt
  rw [atM_nat h]
  rfl
theorem kind_lt {M : List Nd} {i : Int} (h : kindM M i = 2) : 0 ≤ i ∧ i < (M.length : Int) := by
  unfold kindM nvAt at h
  cases ha : atM M i with
  | none => rw [ha] at h; exact absurd (show (0 : Int) = 2 from h) (by decide)
  | some n =>
    obtain ⟨k, rfl, hn⟩ := atM_some ha
    have := (List.getElem?_eq_some_iff.1 hn).1
    exact ⟨by omega, by omega⟩
/-- What a directory is found in has a lesser number, and it is found by a good name. -/
theorem step_lt {M : List Nd} (H : RI M) {i a e : Int} {nm : ByteArray} (hk : kindM M i = 2) (he : firstN M i (listL M a) = some (nm, e)) : 0 ≤ a ∧ a < i ∧ goodB nm = true := by
  have hmem := List.mem_of_find?_eq_some he
  have hov : overI M e = i := by simpa using List.find?_some he
  obtain ⟨k, n, rfl, hn, hln⟩ := listL_ents hmem
  have hm2 : (nm, e) ∈ n.ents := by rw [← hln]; exact hmem
  obtain ⟨h0, h1⟩ := H.num k n hn _ hm2
  have hg : goodB nm = true := H.good k n hn _ hm2
  obtain ⟨j, hj⟩ : ∃ j : Nat, e = (j : Int) := ⟨e.toNat, by omega⟩
  subst hj
  obtain ⟨m, hm⟩ : ∃ m, M[j]? = some m := ⟨_, List.getElem?_eq_getElem (by omega)⟩
  have ho : overI M (j : Int) = m.over := by unfold overI; rw [atM_nat hm]
  rw [ho] at hov
  refine ⟨by omega, ?_, hg⟩
  rcases (H.cov j m hm).2 with q | ⟨q2, j2, m2, hj2, hm2', _, hlt⟩
  · have hij : i = (j : Int) := by omega
    rw [hij, kind_nat hm] at hk
    have := H.ord k n hn _ hm2 j m rfl hm hk
    omega
  · have := H.ord k n hn _ hm2 j m rfl hm q2
    omega
theorem dirN_good {M : List Nd} (H : RI M) {i : Int} {ns : List ByteArray} (h : DirN M i ns) : ∀ n ∈ ns, goodB n = true := by
  induction h with
  | root => intro n h; cases h
  | step h0 hk hl he hd ih =>
    intro n hn
    rcases List.mem_append.1 hn with q | q
    · exact ih n q
    · obtain rfl : n = _ := by simpa using q
      exact (step_lt H hk he).2.2
/-- The entries ahead of the first that comes to i don't. -/
theorem first_drop {M : List Nd} {i : Int} {l : List (ByteArray × Int)} {k : Nat} {x : ByteArray × Int} (hx : l[k]? = some x) (h : firstN M i l = firstN M i (l.drop k)) : firstN M i l = if overI M x.2 = i then some x else firstN M i (l.drop (k + 1)) := by
  have hd : l.drop k = x :: l.drop (k + 1) := by
    obtain ⟨hk, rfl⟩ := List.getElem?_eq_some_iff.1 hx
    exact List.drop_eq_getElem_cons hk
  rw [h, hd]
  unfold firstN
  rw [List.find?_cons]
  by_cases q : overI M x.2 = i
  · rw [if_pos q, show (overI M x.2 == i) = true from beq_iff_eq.2 q]
  · rw [if_neg q, show (overI M x.2 == i) = false from beq_eq_false_iff_ne.2 q]

theorem flat_join : ∀ ns : List ByteArray, flatN ns = Lib.joinTail [47] (ns.map fun n => n.data.toList)
  | [] => rfl
  | n :: r => by
    rw [flatN, flat_join r]
    simp [Lib.joinTail]
theorem join_flat (n : ByteArray) (r : List ByteArray) : 47 :: Lib.join ((n :: r).map fun n => n.data.toList) [47] = flatN (n :: r) := by
  rw [List.map_cons, Lib.join_cons, flatN, flat_join]
theorem path_join (ns : List ByteArray) : (⟨#[47]⟩ : ByteArray) ++ (⟨(Lib.join (ns.map fun n => n.data.toList) [47]).toArray⟩ : ByteArray) = pathOf ns := by
  apply ByteArray.ext
  rw [ByteArray.data_append]
  unfold pathOf
  cases ns with
  | nil => rfl
  | cons n r =>
    rw [if_neg (by simp), ← join_flat]
    unfold mkB
    simp
theorem flatN_len : ∀ ns : List ByteArray, (∀ n ∈ ns, goodB n = true) → (flatN ns).length ≤ 256 * ns.length
  | [], _ => Nat.le_refl _
  | n :: r, h => by
    have h1 := (goodB_parts (h n List.mem_cons_self)).2.1
    have h2 := flatN_len r (fun x hx => h x (List.mem_cons_of_mem _ hx))
    rw [flatN, List.length_cons, List.length_append, size_list, List.length_cons]
    omega
theorem path_len {ns : List ByteArray} (h : ∀ n ∈ ns, goodB n = true) : (pathOf ns).size ≤ 256 * ns.length + 1 := by
  have := flatN_len ns h
  rw [← size_list]
  unfold pathOf
  split
  · rw [mkB_list]; simp
  · rw [mkB_list]; omega
theorem join_len {ns : List ByteArray} (h : ∀ n ∈ ns, goodB n = true) : (Lib.join (ns.map fun n => n.data.toList) [47]).length ≤ 256 * ns.length := by
  cases ns with
  | nil => exact Nat.le_refl 0
  | cons n r =>
    have h1 := flatN_len (n :: r) h
    rw [← join_flat, List.length_cons] at h1
    omega
/-- A name behind a directory's real path. -/
theorem path_name {ns : List ByteArray} (h : ∀ n ∈ ns, goodB n = true) (nm : ByteArray) : (⟨(Lib.trimSuffix (pathOf ns).data.toList [47]).toArray⟩ : ByteArray) ++ ⟨#[47]⟩ ++ nm = pathOf (ns ++ [nm]) := by
  apply ByteArray.ext
  rw [ByteArray.data_append, ByteArray.data_append]
  have e2 : pathOf (ns ++ [nm]) = mkB (flatN (ns ++ [nm])) := by unfold pathOf; rw [if_neg (by simp)]
  have e3 : flatN [nm] = 47 :: nm.data.toList := by rw [flatN, flatN, List.append_nil]
  rw [e2, flatN_app, e3]
  have e1 : Lib.trimSuffix (pathOf ns).data.toList [47] = flatN ns := by
    rcases List.eq_nil_or_concat ns with q | ⟨n0, n1, q⟩
    · subst q; decide
    · have hb := ends_path (ns := n0) (h n1 (by rw [q]; simp))
      rw [← List.concat_eq_append, ← q] at hb
      unfold endsB at hb
      unfold Lib.trimSuffix
      rw [hb, if_neg (by decide)]
      unfold pathOf
      rw [if_neg (by rw [q]; simp), mkB_list]
  rw [e1]
  unfold mkB
  apply Array.ext'
  simp
/-- A path as a walk of the law puts it together. -/
theorem path_flat {ns : List ByteArray} (h : ns ≠ []) : pathOf ns = mkB (flatN ns) := by unfold pathOf; rw [if_neg h]
end Go.Proofs.YtknfhphhcnbndaaGreatDoor.V
