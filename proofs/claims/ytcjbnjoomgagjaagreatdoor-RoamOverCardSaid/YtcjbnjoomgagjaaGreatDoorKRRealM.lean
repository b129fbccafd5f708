/-
  What path.Names and the reference's Names return: a path's names, and whether it begins, and ends, with a slash. Conditions: at most 100000 bytes.
-/
import Derived.Test.YtcjbnjoomgagjaaGreatDoorKHNamesM
import Derived.Test.YtcjbnjoomgagjaaGreatDoorShelf
import Derived.Test.YtcjbnjoomgagjaaGreatDoorRows
import Derived.WalkKit
import Derived.WalkSpells
import Derived.WalkLawsBesides
import Derived.OwnWalk
import Derived.Deep.AppendLies
import Derived.Lib.Hide
import Derived.Test.YtcjbnjoomgagjaaGreatDoorKVAsk
import Derived.Test.YtcjbnjoomgagjaaGreatDoorKPMay
import Derived.Test.YtcjbnjoomgagjaaGreatDoorKVRefApp
import Derived.Lib.Join
set_option linter.unusedVariables false
namespace Go.Proofs.YtcjbnjoomgagjaaGreatDoor.V
open Go.RowKit Go.Shelf
end Go.Proofs.YtcjbnjoomgagjaaGreatDoor.V
namespace Go.Proofs.YtcjbnjoomgagjaaGreatDoor.V
open Go.Proofs.YtcjbnjoomgagjaaGreatDoor.P
open Go.RowKit
def nvOf (n : Nd) : Nv := ⟨n.dev, n.ino, n.kind, n.mode, n.uid, n.gid, n.size, n.blocks, n.links, n.t0, n.t1, n.t2, n.target⟩
def zeroNv : Nv := ⟨0, 0, 0, 0, 0, 0, 0, 0, 0, 0, 0, 0, ⟨#[]⟩⟩
def nvAt (M : List Nd) (i : Int) : Nv := match atM M i with
  | none => zeroNv
  | some n => nvOf n
theorem nodeV_nv (M : List Nd) (i : Int) : nodeV' M i = nodeV (nvAt M i) := by
  unfold nodeV' nvAt
  cases atM M i <;> rfl
def kindM (M : List Nd) (i : Int) : Int := (nvAt M i).kind
structure Pl where
  id : Int
  dir : Int
  name : ByteArray
theorem known_nv (n : Nv) : nodeV n = .agg #[.int .i64 n.dev, .int .i64 n.ino, .int .i64 n.kind, .int .i64 n.mode, .int .i64 n.uid, .int .i64 n.gid, .int .i64 n.size, .int .i64 n.blocks, .int .i64 n.links, .int .i64 n.ta, .int .i64 n.tb, .int .i64 n.tc, .string n.target] := rfl
end Go.Proofs.YtcjbnjoomgagjaaGreatDoor.V
namespace Go.Proofs.YtcjbnjoomgagjaaGreatDoor.V
open Go.Proofs.YtcjbnjoomgagjaaGreatDoor.P
open Go.RowKit
def mkB (l : List UInt8) : ByteArray := ⟨l.toArray⟩
def seg (l : List UInt8) (a b : Nat) : List UInt8 := (l.drop a).take (b - a)
theorem ext_seg (s : ByteArray) (a b : Nat) (hab : a ≤ b) (hb : b ≤ s.size) : s.extract a b = mkB (seg s.data.toList a b) := by
  apply ByteArray.ext
  rw [ByteArray.data_extract]
  unfold mkB seg
  apply Array.toList_inj.1
  rw [Array.toList_extract, List.extract_eq_take_drop]
def kc (C : List (Int × Int × Int)) (j : Int) : Int := if 0 ≤ j ∧ j < (C.length : Int) then ((C[j.toNat]?).map (·.1)).getD 0 else 0
def dd : ByteArray := ⟨#[46, 46]⟩
def dot1 : ByteArray := ⟨#[46]⟩
inductive Ins (sl : Bool) : List ByteArray → List ByteArray → Prop
  | nil : Ins sl [] []
  | last {r : List ByteArray} (h : sl = true) (k : Ins sl [] r) : Ins sl [] (dot1 :: r)
  | dot {x : ByteArray} {l r : List ByteArray} (k : Ins sl (x :: l) r) : Ins sl (x :: l) (dot1 :: r)
  | cons {x : ByteArray} {l r : List ByteArray} (k : Ins sl l r) : Ins sl (x :: l) (x :: r)
theorem Ins.refl {sl : Bool} : ∀ l, Ins sl l l
  | [] => .nil
  | x :: l => .cons (Ins.refl l)
theorem Ins.more {sl sl' : Bool} (hs : sl = true → sl' = true) {a b : List ByteArray} (h : Ins sl a b) : Ins sl' a b := by
  induction h with
  | nil => exact .nil
  | last h k ih => exact .last (hs h) ih
  | dot k ih => exact .dot ih
  | cons k ih => exact .cons ih
theorem size_list (s : ByteArray) : s.data.toList.length = s.size := by simp
end Go.Proofs.YtcjbnjoomgagjaaGreatDoor.V
namespace Go.Proofs.YtcjbnjoomgagjaaGreatDoor.V
open Go.Proofs.YtcjbnjoomgagjaaGreatDoor.P
open Go.RowKit
theorem mod_at {M : List Nd} {i k : Nat} {f : Nd → Nd} {y : Nd} (h : (M.modify i f)[k]? = some y) : ∃ x, M[k]? = some x ∧ y = if i = k then f x else x := by
  rw [List.getElem?_modify] at h
  cases hm : M[k]? with
  | none => rw [hm] at h; cases h
  | some x =>
    rw [hm] at h
    exact ⟨x, rfl, (Option.some.inj h).symm⟩
theorem mod_fwd {M : List Nd} {i k : Nat} {f : Nd → Nd} {x : Nd} (h : M[k]? = some x) : (M.modify i f)[k]? = some (if i = k then f x else x) := by
  rw [List.getElem?_modify, h]
  rfl
theorem app_at {M : List Nd} {x y : Nd} {k : Nat} (h : (M ++ [x])[k]? = some y) : M[k]? = some y ∨ (k = M.length ∧ y = x) := by
  rcases Nat.lt_or_ge k M.length with q | q
  · rw [List.getElem?_append_left q] at h
    exact .inl h
  · rw [List.getElem?_append_right q] at h
    have h0 : k - M.length = 0 := by
      have := (List.getElem?_eq_some_iff.1 h).1
      simp at this
      omega
    rw [h0] at h
    exact .inr ⟨by omega, (by simpa using h.symm)⟩
structure RI (M : List Nd) : Prop where
  good : ∀ (k : Nat) (n : Nd), M[k]? = some n → ∀ e ∈ n.ents, goodB e.1 = true
  one : ∀ (k : Nat) (n : Nd), M[k]? = some n → n.ents.Pairwise (fun a b => sameT a.1 b.1 = false)
  num : ∀ (k : Nat) (n : Nd), M[k]? = some n → ∀ e ∈ n.ents, 0 ≤ e.2 ∧ e.2 < (M.length : Int)
  ord : ∀ (k : Nat) (n : Nd), M[k]? = some n → ∀ e ∈ n.ents, ∀ (j : Nat) (m : Nd), e.2 = (j : Int) → M[j]? = some m → m.kind = 2 → k < j
  cov : ∀ (k : Nat) (n : Nd), M[k]? = some n → (n.ino = 1 → n.over = (k : Int)) ∧ (n.over = (k : Int) ∨ (n.kind = 2 ∧ ∃ (j : Nat) (m : Nd), n.over = (j : Int) ∧ M[j]? = some m ∧ m.ino = 1 ∧ k < j))
  root : ∃ n, M[0]? = some n ∧ n.kind = 2 ∧ n.ino = 1
theorem RI.same {M : List Nd} {i : Nat} {f : Nd → Nd} (H : RI M) (hf : ∀ n, (f n).ents = n.ents ∧ (f n).kind = n.kind ∧ (f n).ino = n.ino ∧ (f n).over = n.over) : RI (M.modify i f) := by
  have e1 : ∀ (k : Nat) (x : Nd), (if i = k then f x else x).ents = x.ents := fun k x => by split; exact (hf x).1; rfl
  have e2 : ∀ (k : Nat) (x : Nd), (if i = k then f x else x).kind = x.kind := fun k x => by split; exact (hf x).2.1; rfl
  have e3 : ∀ (k : Nat) (x : Nd), (if i = k then f x else x).ino = x.ino := fun k x => by split; exact (hf x).2.2.1; rfl
  have e4 : ∀ (k : Nat) (x : Nd), (if i = k then f x else x).over = x.over := fun k x => by split; exact (hf x).2.2.2; rfl
  refine ⟨fun k y hy => ?_, fun k y hy => ?_, fun k y hy => ?_, fun k y hy => ?_, fun k y hy => ?_, ?_⟩
  · obtain ⟨x, hx, rfl⟩ := mod_at hy
    rw [e1]
    exact H.good k x hx
  · obtain ⟨x, hx, rfl⟩ := mod_at hy
    rw [e1]
    exact H.one k x hx
  · obtain ⟨x, hx, rfl⟩ := mod_at hy
    rw [e1, List.length_modify]
    exact H.num k x hx
  · obtain ⟨x, hx, rfl⟩ := mod_at hy
    rw [e1]
    intro e he j m hj hm hk
    obtain ⟨z, hz, rfl⟩ := mod_at hm
    rw [e2] at hk
    exact H.ord k x hx e he j z hj hz hk
  · obtain ⟨x, hx, rfl⟩ := mod_at hy
    rw [e2, e3, e4]
    refine ⟨(H.cov k x hx).1, (H.cov k x hx).2.imp id ?_⟩
    rintro ⟨h2, j, m, hj, hm, hi, hl⟩
    exact ⟨h2, j, _, hj, mod_fwd hm, by rw [e3]; exact hi, hl⟩
  · obtain ⟨n, hn, h1, h2⟩ := H.root
    exact ⟨_, mod_fwd hn, by rw [e2]; exact h1, by rw [e3]; exact h2⟩
theorem RI.app {M : List Nd} {x : Nd} (H : RI M) (he : x.ents = []) (ho : x.over = (M.length : Int)) : RI (M ++ [x]) := by
  refine ⟨fun k y hy => ?_, fun k y hy => ?_, fun k y hy => ?_, fun k y hy => ?_, fun k y hy => ?_, ?_⟩
  · rcases app_at hy with q | ⟨rfl, rfl⟩
    · exact H.good k y q
    · rw [he]; intro e h; cases h
  · rcases app_at hy with q | ⟨rfl, rfl⟩
    · exact H.one k y q
    · rw [he]; exact List.Pairwise.nil
  · rcases app_at hy with q | ⟨rfl, rfl⟩
    · intro e h
      have := H.num k y q e h
      rw [List.length_append]
      exact ⟨this.1, by have := this.2; simp; omega⟩
    · rw [he]; intro e h; cases h
  · rcases app_at hy with q | ⟨rfl, rfl⟩
    · intro e h j m hj hm hk
      have hlt := (H.num k y q e h).2
      rcases app_at hm with z | ⟨z, _⟩
      · exact H.ord k y q e h j m hj z hk
      · omega
    · rw [he]; intro e h; cases h
  · rcases app_at hy with q | ⟨rfl, rfl⟩
    · refine ⟨(H.cov k y q).1, (H.cov k y q).2.imp id ?_⟩
      rintro ⟨h2, j, m, hj, hm, hi, hl⟩
      exact ⟨h2, j, m, hj, app_left hm, hi, hl⟩
    · exact ⟨fun _ => ho, .inl ho⟩
  · obtain ⟨n, hn, h1, h2⟩ := H.root
    exact ⟨n, app_left hn, h1, h2⟩
theorem RI.enter {M : List Nd} {i j : Nat} {s : ByteArray} {d : Nd} (H : RI M) (hd : M[i]? = some d) (hg : goodB s = true) (hh : hasEnt s d.ents = false) (hj : j < M.length) (ho : ∀ m, M[j]? = some m → m.kind = 2 → i < j) : RI (M.modify i (addEnt s (j : Int))) := by
  have e2 : ∀ (k : Nat) (x : Nd), (if i = k then addEnt s (j : Int) x else x).kind = x.kind := fun k x => by split <;> rfl
  have e3 : ∀ (k : Nat) (x : Nd), (if i = k then addEnt s (j : Int) x else x).ino = x.ino := fun k x => by split <;> rfl
  have e4 : ∀ (k : Nat) (x : Nd), (if i = k then addEnt s (j : Int) x else x).over = x.over := fun k x => by split <;> rfl
  have em : ∀ (k : Nat) (x : Nd) e, e ∈ (if i = k then addEnt s (j : Int) x else x).ents → e ∈ x.ents ∨ (i = k ∧ e = (s, (j : Int))) := fun k x e he => by
    split at he
    · rename_i q
      have he : e ∈ x.ents ++ [(s, (j : Int))] := he
      rcases List.mem_append.1 he with z | z
      · exact .inl z
      · exact .inr ⟨q, by simpa using z⟩
    · exact .inl he
  refine ⟨fun k y hy => ?_, fun k y hy => ?_, fun k y hy => ?_, fun k y hy => ?_, fun k y hy => ?_, ?_⟩
  · obtain ⟨x, hx, rfl⟩ := mod_at hy
    intro e he
    rcases em k x e he with q | ⟨_, rfl⟩
    · exact H.good k x hx e q
    · exact hg
  · obtain ⟨x, hx, rfl⟩ := mod_at hy
    split
    · rename_i q
      subst q
      rw [hd] at hx
      obtain rfl := Option.some.inj hx
      show (d.ents ++ [(s, (j : Int))]).Pairwise _
      refine List.pairwise_append.2 ⟨H.one i d hd, List.pairwise_singleton _ _, fun a ha b hb => ?_⟩
      obtain rfl : b = (s, (j : Int)) := by simpa using hb
      unfold hasEnt at hh
      exact Bool.eq_false_iff.2 (fun q => by rw [List.any_eq_true.2 ⟨a, ha, q⟩] at hh; cases hh)
    · exact H.one k x hx
  · obtain ⟨x, hx, rfl⟩ := mod_at hy
    intro e he
    rw [List.length_modify]
    rcases em k x e he with q | ⟨_, rfl⟩
    · exact H.num k x hx e q
    · exact ⟨by omega, by omega⟩
  · obtain ⟨x, hx, rfl⟩ := mod_at hy
    intro e he j' m hj' hm hk
    obtain ⟨z, hz, rfl⟩ := mod_at hm
    rw [e2] at hk
    rcases em k x e he with q | ⟨q, rfl⟩
    · exact H.ord k x hx e q j' z hj' hz hk
    · subst q
      obtain rfl : j = j' := by
        have : (j : Int) = (j' : Int) := hj'
        omega
      exact ho z hz hk
  · obtain ⟨x, hx, rfl⟩ := mod_at hy
    rw [e2, e3, e4]
    refine ⟨(H.cov k x hx).1, (H.cov k x hx).2.imp id ?_⟩
    rintro ⟨h2, j', m, hj', hm, hi, hl⟩
    exact ⟨h2, j', _, hj', mod_fwd hm, by rw [e3]; exact hi, hl⟩
  · obtain ⟨n, hn, h1, h2⟩ := H.root
    exact ⟨_, mod_fwd hn, by rw [e2]; exact h1, by rw [e3]; exact h2⟩
theorem RI.cover {M : List Nd} {i : Nat} {x y : Nd} (H : RI M) (he : x.ents = []) (ho : x.over = (M.length : Int)) (hx1 : x.ino = 1) (hy : M[i]? = some y) (hk : y.kind = 2) (hn : y.ino ≠ 1) : RI ((M ++ [x]).modify i (setOver (M.length : Int))) := by
  have H' := H.app he ho
  have hi := (List.getElem?_eq_some_iff.1 hy).1
  have e1 : ∀ (k : Nat) (z : Nd), (if i = k then setOver (M.length : Int) z else z).ents = z.ents := fun k z => by split <;> rfl
  have e2 : ∀ (k : Nat) (z : Nd), (if i = k then setOver (M.length : Int) z else z).kind = z.kind := fun k z => by split <;> rfl
  have e3 : ∀ (k : Nat) (z : Nd), (if i = k then setOver (M.length : Int) z else z).ino = z.ino := fun k z => by split <;> rfl
  refine ⟨fun k n hnn => ?_, fun k n hnn => ?_, fun k n hnn => ?_, fun k n hnn => ?_, fun k n hnn => ?_, ?_⟩
  · obtain ⟨z, hz, rfl⟩ := mod_at hnn
    rw [e1]
    exact H'.good k z hz
  · obtain ⟨z, hz, rfl⟩ := mod_at hnn
    rw [e1]
    exact H'.one k z hz
  · obtain ⟨z, hz, rfl⟩ := mod_at hnn
    rw [e1, List.length_modify]
    exact H'.num k z hz
  · obtain ⟨z, hz, rfl⟩ := mod_at hnn
    rw [e1]
    intro e hee j m hj hm hkk
    obtain ⟨u, hu, rfl⟩ := mod_at hm
    rw [e2] at hkk
    exact H'.ord k z hz e hee j u hj hu hkk
  · obtain ⟨z, hz, rfl⟩ := mod_at hnn
    rw [e2, e3]
    by_cases q : i = k
    · subst q
      rw [if_pos rfl]
      rcases app_at hz with w | ⟨w, _⟩
      · rw [hy] at w
        obtain rfl := Option.some.inj w
        refine ⟨fun w => absurd w hn, .inr ⟨hk, M.length, _, rfl, mod_fwd (app_last M x), ?_, hi⟩⟩
        rw [e3]
        exact hx1
      · omega
    · rw [if_neg q]
      refine ⟨(H'.cov k z hz).1, (H'.cov k z hz).2.imp id ?_⟩
      rintro ⟨h2, j, m, hj, hm, h1, hl⟩
      exact ⟨h2, j, _, hj, mod_fwd hm, by rw [e3]; exact h1, hl⟩
  · obtain ⟨n, hnn, h1, h2⟩ := H'.root
    exact ⟨_, mod_fwd hnn, by rw [e2]; exact h1, by rw [e3]; exact h2⟩
theorem wrong_entry {M : List Nd} {c : Chg} (h : wrongM M c = 0) (k0 : 0 ≤ c.kind) (k3 : c.kind < 4) : ∃ x, atM M c.at_ = some x ∧ x.kind = 2 ∧ goodB c.name = true ∧ hasEnt c.name x.ents = false := by
  unfold wrongM refuseE at h
  split at h
  · cases h
  · rename_i hno
    unfold baseE at h
    rw [if_pos ⟨k0, by omega⟩] at h
    unfold entryE at h
    cases hx : atM M c.at_ with
    | none => rw [hx] at h; cases h
    | some x =>
      rw [hx] at h
      dsimp only at h
      split at h
      · rename_i q
        split at h
        · rename_i g
          split at h
          · cases h
          · rename_i e
            exact ⟨x, rfl, q, g, Bool.eq_false_iff.2 e⟩
        · cases h
      · cases h
theorem wrong_mount {M : List Nd} {c : Chg} (h : wrongM M c = 0) (k7 : c.kind = 7) : ∃ y, atM M c.to = some y ∧ y.kind = 2 ∧ y.over = c.to ∧ y.ino ≠ 1 := by
  unfold wrongM refuseE at h
  split at h
  · cases h
  · unfold baseE at h
    rw [if_neg (by omega), if_pos (by omega)] at h
    unfold nodeE at h
    cases hy : atM M c.to with
    | none => rw [hy] at h; cases h
    | some y =>
      rw [hy] at h
      dsimp only at h
      rw [if_neg (by omega), if_pos k7] at h
      split at h
      · rename_i q
        split at h
        · cases h
        · rename_i z
          exact ⟨y, rfl, q, Classical.byContradiction fun w => z (.inl w), fun w => z (.inr w)⟩
      · cases h
theorem cnt_new {M : List Nd} (H : DevInv M) {d : Int} (hd : ((devL M 0).length : Int) < d) : cntD d M = 0 := by
  have : ∀ l : List Nd, (∀ n ∈ l, n.dev ≠ d) → cntD d l = 0 := fun l => by
    induction l with
    | nil => intro _; rfl
    | cons n r ih => intro h; rw [cntD, if_neg (h n List.mem_cons_self), ih (fun x hx => h x (List.mem_cons_of_mem _ hx))]; rfl
  refine this M (fun n hn e => ?_)
  obtain ⟨k, hk⟩ := List.mem_iff_getElem?.1 hn
  have := (H k n hk).2.1
  omega
theorem RI.built {M : List Nd} {i : Nat} {s : ByteArray} {n d : Nd} {dev : Int} (H : RI M) (hd : M[i]? = some d) (hg : goodB s = true) (hh : hasEnt s d.ents = false) (he : n.ents = []) : RI (builtM M i s n dev) := by
  unfold builtM
  have hi := (List.getElem?_eq_some_iff.1 hd).1
  refine RI.same ?_ (fun n => ⟨rfl, rfl, rfl, rfl⟩)
  refine RI.enter (H.app he rfl) (app_left hd) hg hh (by simp) (fun m hm hk => hi)
theorem RI.do_ {M : List Nd} {c : Chg} (H : RI M) (hD : DevInv M) : RI (doM M c) := by
  unfold doM
  split
  · rename_i hw
    have hat : ∀ (_ : 0 ≤ c.kind) (_ : c.kind < 4), ∃ x, M[c.at_.toNat]? = some x ∧ x.kind = 2 ∧ goodB c.name = true ∧ hasEnt c.name x.ents = false := fun k0 k3 => by
      obtain ⟨x, hx, h1, h2, h3⟩ := wrong_entry hw k0 k3
      obtain ⟨i, hi, hxi⟩ := atM_some hx
      exact ⟨x, by rw [hi, Int.toNat_natCast]; exact hxi, h1, h2, h3⟩
    unfold carryM
    split
    · obtain ⟨x, hx, h1, h2, h3⟩ := hat (by omega) (by omega)
      exact H.built hx h2 h3 rfl
    · split
      · obtain ⟨x, hx, h1, h2, h3⟩ := hat (by omega) (by omega)
        exact H.built hx h2 h3 rfl
      · split
        · rename_i k2
          obtain ⟨x, hx, h1, h2, h3⟩ := hat (by omega) (by omega)
          rcases wrong_cases hw with ⟨_, _, q, _⟩ | ⟨_, x', y, _, hy, hyk⟩ | ⟨q, _⟩ | ⟨q, _⟩
          · omega
          · obtain ⟨j, hj, hyj⟩ := atM_some hy
            refine RI.same ?_ (fun n => ⟨rfl, rfl, rfl, rfl⟩)
            rw [hj]
            exact H.enter hx h2 h3 (List.getElem?_eq_some_iff.1 hyj).1 (fun m hm hk => by rw [hyj] at hm; obtain rfl := Option.some.inj hm; exact absurd hk hyk)
          · omega
          · omega
        · split
          · obtain ⟨x, hx, h1, h2, h3⟩ := hat (by omega) (by omega)
            exact H.built hx h2 h3 rfl
          · split
            · rename_i k7
              obtain ⟨y, hy, h1, h2, h3⟩ := wrong_mount hw k7
              obtain ⟨j, hj, hyj⟩ := atM_some hy
              unfold coveredM
              refine H.cover rfl rfl ?_ (y := y) (by rw [hj, Int.toNat_natCast]; exact hyj) h1 h3
              show 1 + cntD _ M = 1
              rw [cnt_new hD (by omega)]
              rfl
            · refine H.same (fun n => ?_)
              unfold setNd
              repeat' split
              all_goals exact ⟨rfl, rfl, rfl, rfl⟩
  · exact H
theorem ri_new : RI newM := by
  have h0 : ∀ (k : Nat) (n : Nd), newM[k]? = some n → k = 0 ∧ n = addedNd (dirNd 493 0) 1 [] := fun k n h => by
    have hk : k = 0 := by
      have := (List.getElem?_eq_some_iff.1 h).1
      simp [newM] at this
      exact this
    subst hk
    exact ⟨rfl, by simpa [newM] using h.symm⟩
  refine ⟨fun k n h => ?_, fun k n h => ?_, fun k n h => ?_, fun k n h => ?_, fun k n h => ?_, ⟨_, rfl, rfl, rfl⟩⟩
  · obtain ⟨rfl, rfl⟩ := h0 k n h; intro e he; cases he
  · obtain ⟨rfl, rfl⟩ := h0 k n h; exact List.Pairwise.nil
  · obtain ⟨rfl, rfl⟩ := h0 k n h; intro e he; cases he
  · obtain ⟨rfl, rfl⟩ := h0 k n h; intro e he; cases he
  · obtain ⟨rfl, rfl⟩ := h0 k n h; exact ⟨fun _ => rfl, .inl rfl⟩
theorem sameT_self (s : ByteArray) : sameT s s = true := by unfold sameT; simp
theorem goodB_parts {s : ByteArray} (h : goodB s = true) : 1 ≤ s.size ∧ s.size ≤ 255 ∧ s.toList ≠ [46] ∧ s.toList ≠ [46, 46] ∧ ∀ b ∈ s.data.toList, b ≠ 47 := by
  unfold goodB at h
  simp only [Bool.and_eq_true, decide_eq_true_eq, Bool.not_eq_true', beq_eq_false_iff_ne, decide_eq_false_iff_not] at h
  obtain ⟨h1, h2, h3, h4, h5⟩ := h
  refine ⟨h1, h2, h3, h4, fun b hb q => h5 ?_⟩
  subst q
  have key : ∀ l : List UInt8, (47 : UInt8) ∈ l → 0 ≤ Lib.indexAny l hardL := fun l => by
    induction l with
    | nil => intro h; cases h
    | cons x r ih =>
      intro h
      rw [Lib.indexAny]
      split
      · exact Int.le_refl _
      · rename_i hx
        have hr : (47 : UInt8) ∈ r := by
          rcases List.mem_cons.1 h with e | e
          · subst e; exact absurd (by decide) hx
          · exact e
        have := ih hr
        rw [if_neg (by intro z; have := beq_iff_eq.1 z; omega)]
        omega
  exact key _ hb
theorem mkB_list (l : List UInt8) : (mkB l).data.toList = l := by unfold mkB; simp
end Go.Proofs.YtcjbnjoomgagjaaGreatDoor.V
namespace Go.Proofs.YtcjbnjoomgagjaaGreatDoor.V
open Go.Proofs.YtcjbnjoomgagjaaGreatDoor.P
open Go.RowKit
end Go.Proofs.YtcjbnjoomgagjaaGreatDoor.V
