/-
  Real paths in the model: what a directory's names come to, and that a real path is walked to where it was had from. Conditions: each fact's own.
  What real.Dir's loop holds, and how a real path is put together, in the model. Conditions: each fact's own.
  In the file system's model: each directory has one entry alone, in the directory above it; what covers is above as what it covers; so a walk comes to each once. Conditions: each fact's own.
-/
import Derived.Test.YtpikndeefiediaaGreatDoorKHUp
import Derived.Lib.Join
import Derived.Test.YtpikndeefiediaaGreatDoorKGBoundM
import Derived.Test.YtpikndeefiediaaGreatDoorKGShownM
set_option linter.unusedVariables false
namespace Go.Proofs.YtpikndeefiediaaGreatDoor.V
open Go.Proofs.YtpikndeefiediaaGreatDoor.P
open Go.RowKit

theorem mod_at {M : List Nd} {i k : Nat} {f : Nd → Nd} {y : Nd} (h : (M.modify i f)[k]? = some y) : ∃ x, M[k]? = some x ∧ y = if i = k then f x else x := by
  rw [List.getElem?_modify] at h
  cases hm : M[k]? with
  | none => rw [hm] at h; cases h
  | some x =>
    rw [hm] at h
    exact ⟨x, rfl, (Option.some.inj h).symm⟩
theorem mod_fwd {M : List Nd} {i k : Nat} {f : Nd → Nd} {x : Nd} (h : M[k]? = some x) : (M.modify i f)[k]? = some (if i = k then f x else x) := by
  rw [List.getElem?_modify, h]
  rfl
theorem app_at {M : List Nd} {x y : Nd} {k : Nat} (h : (M ++ [x])[k]? = some y) : M[k]? = some y ∨ (k = M.length ∧ y = x) := by
  rcases Nat.lt_or_ge k M.length with q | q
  · rw [List.getElem?_append_left q] at h
    exact .inl h
  · rw [List.getElem?_append_right q] at h
    have h0 : k - M.length = 0 := by
      have := (List.getElem?_eq_some_iff.1 h).1
      simp at this
      omega
    rw [h0] at h
    exact .inr ⟨by omega, (by simpa using h.symm)⟩
/-- What real paths lean on: entries' names are good and differ; directories' entries go up in number; what covers is covered by nothing; there is a root. -/
structure RI (M : List Nd) : Prop where
  good : ∀ (k : Nat) (n : Nd), M[k]? = some n → ∀ e ∈ n.ents, goodB e.1 = true
  one : ∀ (k : Nat) (n : Nd), M[k]? = some n → n.ents.Pairwise (fun a b => sameT a.1 b.1 = false)
  num : ∀ (k : Nat) (n : Nd), M[k]? = some n → ∀ e ∈ n.ents, 0 ≤ e.2 ∧ e.2 < (M.length : Int)
  ord : ∀ (k : Nat) (n : Nd), M[k]? = some n → ∀ e ∈ n.ents, ∀ (j : Nat) (m : Nd), e.2 = (j : Int) → M[j]? = some m → m.kind = 2 → k < j
  cov : ∀ (k : Nat) (n : Nd), M[k]? = some n → (n.ino = 1 → n.over = (k : Int)) ∧ (n.over = (k : Int) ∨ (n.kind = 2 ∧ ∃ (j : Nat) (m : Nd), n.over = (j : Int) ∧ M[j]? = some m ∧ m.ino = 1 ∧ k < j))
  root : ∃ n, M[0]? = some n ∧ n.kind = 2 ∧ n.ino = 1

theorem RI.same {M : List Nd} {i : Nat} {f : Nd → Nd} (H : RI M) (hf : ∀ n, (f n).ents = n.ents ∧ (f n).kind = n.kind ∧ (f n).ino = n.ino ∧ (f n).over = n.over) : RI (M.modify i f) := by
  have e1 : ∀ (k : Nat) (x : Nd), (if i = k then f x else x).ents = x.ents := fun k x => by split; exact (hf x).1; rfl
  have e2 : ∀ (k : Nat) (x : Nd), (if i = k then f x else x).kind = x.kind := fun k x => by split; exact (hf x).2.1; rfl
  have e3 : ∀ (k : Nat) (x : Nd), (if i = k then f x else x).ino = x.ino := fun k x => by split; exact (hf x).2.2.1; rfl
  have e4 : ∀ (k : Nat) (x : Nd), (if i = k then f x else x).over = x.over := fun k x => by split; exact (hf x).2.2.2; rfl
  refine ⟨fun k y hy => ?_, fun k y hy => ?_, fun k y hy => ?_, fun k y hy => ?_, fun k y hy => ?_, ?_⟩
  · obtain ⟨x, hx, rfl⟩ := mod_at hy
    rw [e1]
    exact H.good k x hx
  · obtain ⟨x, hx, rfl⟩ := mod_at hy
    rw [e1]
    exact H.one k x hx
  · obtain ⟨x, hx, rfl⟩ := mod_at hy
    rw [e1, List.length_modify]
    exact H.num k x hx
  · obtain ⟨x, hx, rfl⟩ := mod_at hy
    rw [e1]
    intro e he j m hj hm hk
    obtain ⟨z, hz, rfl⟩ := mod_at hm
    rw [e2] at hk
    exact H.ord k x hx e he j z hj hz hk
  · obtain ⟨x, hx, rfl⟩ := mod_at hy
    rw [e2, e3, e4]
    refine ⟨(H.cov k x hx).1, (H.cov k x hx).2.imp id ?_⟩
    rintro ⟨h2, j, m, hj, hm, hi, hl⟩
    exact ⟨h2, j, _, hj, mod_fwd hm, by rw [e3]; exact hi, hl⟩
  · obtain ⟨n, hn, h1, h2⟩ := H.root
    exact ⟨_, mod_fwd hn, by rw [e2]; exact h1, by rw [e3]; exact h2⟩
theorem RI.app {M : List Nd} {x : Nd} (H : RI M) (he : x.ents = []) (ho : x.over = (M.length : Int)) : RI (M ++ [x]) := by
  refine ⟨fun k y hy => ?_, fun k y hy => ?_, fun k y hy => ?_, fun k y hy => ?_, fun k y hy => ?_, ?_⟩
  · rcases app_at hy with q | ⟨rfl, rfl⟩
    · exact H.good k y q
    · rw [he]; intro e h; cases h
  · rcases app_at hy with q | ⟨rfl, rfl⟩
    · exact H.one k y q
    · rw [he]; exact List.Pairwise.nil
  · rcases app_at hy with q | ⟨rfl, rfl⟩
    · intro e h
      have := H.num k y q e h
      rw [List.length_append]
      exact ⟨this.1, by have := this.2; simp; omega⟩
    · rw [he]; intro e h; cases h
  · rcases app_at hy with q | ⟨rfl, rfl⟩
    · intro e h j m hj hm hk
      have hlt := (H.num k y q e h).2
      rcases app_at hm with z | ⟨z, _⟩
      · exact H.ord k y q e h j m hj z hk
      · omega
    · rw [he]; intro e h; cases h
  · rcases app_at hy with q | ⟨rfl, rfl⟩
    · refine ⟨(H.cov k y q).1, (H.cov k y q).2.imp id ?_⟩
      rintro ⟨h2, j, m, hj, hm, hi, hl⟩
      exact ⟨h2, j, m, hj, app_left hm, hi, hl⟩
    · exact ⟨fun _ => ho, .inl ho⟩
  · obtain ⟨n, hn, h1, h2⟩ := H.root
    exact ⟨n, app_left hn, h1, h2⟩
theorem RI.enter {M : List Nd} {i j : Nat} {s : ByteArray} {d : Nd} (H : RI M) (hd : M[i]? = some d) (hg : goodB s = true) (hh : hasEnt s d.ents = false) (hj : j < M.length) (ho : ∀ m, M[j]? = some m → m.kind = 2 → i < j) : RI (M.modify i (addEnt s (j : Int))) := by
  have e2 : ∀ (k : Nat) (x : Nd), (if i = k then addEnt s (j : Int) x else x).kind = x.kind := fun k x => by split <;> rfl
  have e3 : ∀ (k : Nat) (x : Nd), (if i = k then addEnt s (j : Int) x else x).ino = x.ino := fun k x => by split <;> rfl
  have e4 : ∀ (k : Nat) (x : Nd), (if i = k then addEnt s (j : Int) x else x).over = x.over := fun k x => by split <;> rfl
  have em : ∀ (k : Nat) (x : Nd) e, e ∈ (if i = k then addEnt s (j : Int) x else x).ents → e ∈ x.ents ∨ (i = k ∧ e = (s, (j : Int))) := fun k x e he => by
    split at he
    · rename_i q
      have he : e ∈ x.ents ++ [(s, (j : Int))] := he
      rcases List.mem_append.1 he with z | z
      · exact .inl z
      · exact .inr ⟨q, by simpa using z⟩
    · exact .inl he
  refine ⟨fun k y hy => ?_, fun k y hy => ?_, fun k y hy => ?_, fun k y hy => ?_, fun k y hy => ?_, ?_⟩
  · obtain ⟨x, hx, rfl⟩ := mod_at hy
    intro e he
    rcases em k x e he with q | ⟨_, rfl⟩
    · exact H.good k x hx e q
    · exact hg
  · obtain ⟨x, hx, rfl⟩ := mod_at hy
    split
    · rename_i q
      subst q
      rw [hd] at hx
      obtain rfl := Option.some.inj hx
      show (d.ents ++ [(s, (j : Int))]).Pairwise _
      refine List.pairwise_append.2 ⟨H.one i d hd, List.pairwise_singleton _ _, fun a ha b hb => ?_⟩
      obtain rfl : b = (s, (j : Int)) := by simpa using hb
      unfold hasEnt at hh
      exact Bool.eq_false_iff.2 (fun q => by rw [List.any_eq_true.2 ⟨a, ha, q⟩] at hh; cases hh)
    · exact H.one k x hx
  · obtain ⟨x, hx, rfl⟩ := mod_at hy
    intro e he
    rw [List.length_modify]
    rcases em k x e he with q | ⟨_, rfl⟩
    · exact H.num k x hx e q
    · exact ⟨by omega, by omega⟩
  · obtain ⟨x, hx, rfl⟩ := mod_at hy
    intro e he j' m hj' hm hk
    obtain ⟨z, hz, rfl⟩ := mod_at hm
    rw [e2] at hk
    rcases em k x e he with q | ⟨q, rfl⟩
    · exact H.ord k x hx e q j' z hj' hz hk
    · subst q
      obtain rfl : j = j' := by
        have : (j : Int) = (j' : Int) := hj'
        omega
      exact ho z hz hk
  · obtain ⟨x, hx, rfl⟩ := mod_at hy
    rw [e2, e3, e4]
    refine ⟨(H.cov k x hx).1, (H.cov k x hx).2.imp id ?_⟩
    rintro ⟨h2, j', m, hj', hm, hi, hl⟩
    exact ⟨h2, j', _, hj', mod_fwd hm, by rw [e3]; exact hi, hl⟩
  · obtain ⟨n, hn, h1, h2⟩ := H.root
    exact ⟨_, mod_fwd hn, by rw [e2]; exact h1, by rw [e3]; exact h2⟩
theorem RI.cover {M : List Nd} {i : Nat} {x y : Nd} (H : RI M) (he : x.ents = []) (ho : x.over = (M.length : Int)) (hx1 : x.ino = 1) (hy : M[i]? = some y) (hk : y.kind = 2) (hn : y.ino ≠ 1) : RI ((M ++ [x]).modify i (setOver (M.length : Int))) := by
  have H' := H.app he ho
  have hi := (List.getElem?_eq_some_iff.1 hy).1
  have e1 : ∀ (k : Nat) (z : Nd), (if i = k then setOver (M.length : Int) z else z).ents = z.ents := fun k z => by split <;> rfl
  have e2 : ∀ (k : Nat) (z : Nd), (if i = k then setOver (M.length : Int) z else z).kind = z.kind := fun k z => by split <;> rfl
  have e3 : ∀ (k : Nat) (z : Nd), (if i = k then setOver (M.length : Int) z else z).ino = z.ino := fun k z => by split <;> rfl
  refine ⟨fun k n hnn => ?_, fun k n hnn => ?_, fun k n hnn => ?_, fun k n hnn => ?_, fun k n hnn => ?_, ?_⟩
  · obtain ⟨z, hz, rfl⟩ := mod_at hnn
    rw [e1]
    exact H'.good k z hz
  · obtain ⟨z, hz, rfl⟩ := mod_at hnn
    rw [e1]
    exact H'.one k z hz
  · obtain ⟨z, hz, rfl⟩ := mod_at hnn
    rw [e1, List.length_modify]
    exact H'.num k z hz
  · obtain ⟨z, hz, rfl⟩ := mod_at hnn
    rw [e1]
    intro e hee j m hj hm hkk
    obtain ⟨u, hu, rfl⟩ := mod_at hm
    rw [e2] at hkk
    exact H'.ord k z hz e hee j u hj hu hkk
  · obtain ⟨z, hz, rfl⟩ := mod_at hnn
    rw [e2, e3]
    by_cases q : i = k
    · subst q
      rw [if_pos rfl]
      rcases app_at hz with w | ⟨w, _⟩
      · rw [hy] at w
        obtain rfl := Option.some.inj w
        refine ⟨fun w => absurd w hn, .inr ⟨hk, M.length, _, rfl, mod_fwd (app_last M x), ?_, hi⟩⟩
        rw [e3]
        exact hx1
      · omega
    · rw [if_neg q]
      refine ⟨(H'.cov k z hz).1, (H'.cov k z hz).2.imp id ?_⟩
      rintro ⟨h2, j, m, hj, hm, h1, hl⟩
      exact ⟨h2, j, _, hj, mod_fwd hm, by rw [e3]; exact h1, hl⟩
  · obtain ⟨n, hnn, h1, h2⟩ := H'.root
    exact ⟨_, mod_fwd hnn, by rw [e2]; exact h1, by rw [e3]; exact h2⟩

theorem wrong_entry {M : List Nd} {c : Chg} (h : wrongM M c = 0) (k0 : 0 ≤ c.kind) (k3 : c.kind < 4) : ∃ x, atM M c.at_ = some x ∧ x.kind = 2 ∧ goodB c.name = true ∧ hasEnt c.name x.ents = false := by
  unfold wrongM refuseE at h
  split at h
  · cases h
  · rename_i hno
    unfold baseE at h
    rw [if_pos ⟨k0, by omega⟩] at h
    unfold entryE at h
    cases hx : atM M c.at_ with
    | none => rw [hx] at h; cases h
    | some x =>
      rw [hx] at h
      dsimp only at h
      split at h
      · rename_i q
        split at h
        · rename_i g
          split at h
          · cases h
          · rename_i e
            exact ⟨x, rfl, q, g, Bool.eq_false_iff.2 e⟩
        · cases h
      · cases h
theorem wrong_mount {M : List Nd} {c : Chg} (h : wrongM M c = 0) (k7 : c.kind = 7) : ∃ y, atM M c.to = some y ∧ y.kind = 2 ∧ y.over = c.to ∧ y.ino ≠ 1 := by
  unfold wrongM refuseE at h
  split at h
  · cases h
  · unfold baseE at h
    rw [if_neg (by omega), if_pos (by omega)] at h
    unfold nodeE at h
    cases hy : atM M c.to with
    | none => rw [hy] at h; cases h
    | some y =>
      rw [hy] at h
      dsimp only at h
      rw [if_neg (by omega), if_pos k7] at h
      split at h
      · rename_i q
        split at h
        · cases h
        · rename_i z
          exact ⟨y, rfl, q, Classical.byContradiction fun w => z (.inl w), fun w => z (.inr w)⟩
      · cases h
theorem cnt_new {M : List Nd} (H : DevInv M) {d : Int} (hd : ((devL M 0).length : Int) < d) : cntD d M = 0 := by
  have : ∀ l : List Nd, (∀ n ∈ l, n.dev ≠ d) → cntD d l = 0 := fun l => by
    induction l with
    | nil => intro _; rfl
    | cons n r ih => intro h; rw [cntD, if_neg (h n List.mem_cons_self), ih (fun x hx => h x (List.mem_cons_of_mem _ hx))]; rfl
  refine this M (fun n hn e => ?_)
  obtain ⟨k, hk⟩ := List.mem_iff_getElem?.1 hn
  have := (H k n hk).2.1
  omega
theorem RI.built {M : List Nd} {i : Nat} {s : ByteArray} {n d : Nd} {dev : Int} (H : RI M) (hd : M[i]? = some d) (hg : goodB s = true) (hh : hasEnt s d.ents = false) (he : n.ents = []) : RI (builtM M i s n dev) := by
  unfold builtM
  have hi := (List.getElem?_eq_some_iff.1 hd).1
  refine RI.same ?_ (fun n => ⟨rfl, rfl, rfl, rfl⟩)
  refine RI.enter (H.app he rfl) (app_left hd) hg hh (by simp) (fun m hm hk => hi)
theorem RI.do_ {M : List Nd} {c : Chg} (H : RI M) (hD : DevInv M) : RI (doM M c) := by
  unfold doM
  split
  · rename_i hw
    have hat : ∀ (_ : 0 ≤ c.kind) (_ : c.kind < 4), ∃ x, M[c.at_.toNat]? = some x ∧ x.kind = 2 ∧ goodB c.name = true ∧ hasEnt c.name x.ents = false := fun k0 k3 => by
      obtain ⟨x, hx, h1, h2, h3⟩ := wrong_entry hw k0 k3
      obtain ⟨i, hi, hxi⟩ := atM_some hx
      exact ⟨x, by rw [hi, Int.toNat_natCast]; exact hxi, h1, h2, h3⟩
    unfold carryM
    split
    · obtain ⟨x, hx, h1, h2, h3⟩ := hat (by omega) (by omega)
      exact H.built hx h2 h3 rfl
    · split
      · obtain ⟨x, hx, h1, h2, h3⟩ := hat (by omega) (by omega)
        exact H.built hx h2 h3 rfl
      · split
        · rename_i k2
          obtain ⟨x, hx, h1, h2, h3⟩ := hat (by omega) (by omega)
          rcases wrong_cases hw with ⟨_, _, q, _⟩ | ⟨_, x', y, _, hy, hyk⟩ | ⟨q, _⟩ | ⟨q, _⟩
          · omega
          · obtain ⟨j, hj, hyj⟩ := atM_some hy
            refine RI.same ?_ (fun n => ⟨rfl, rfl, rfl, rfl⟩)
            rw [hj]
            exact H.enter hx h2 h3 (List.getElem?_eq_some_iff.1 hyj).1 (fun m hm hk => by rw [hyj] at hm; obtain rfl := Option.some.inj hm; exact absurd hk hyk)
          · omega
          · omega
        · split
          · obtain ⟨x, hx, h1, h2, h3⟩ := hat (by omega) (by omega)
            exact H.built hx h2 h3 rfl
          · split
            · rename_i k7
              obtain ⟨y, hy, h1, h2, h3⟩ := wrong_mount hw k7
              obtain ⟨j, hj, hyj⟩ := atM_some hy
              unfold coveredM
              refine H.cover rfl rfl ?_ (y := y) (by rw [hj, Int.toNat_natCast]; exact hyj) h1 h3
              show 1 + cntD _ M = 1
              rw [cnt_new hD (by omega)]
              rfl
            · refine H.same (fun n => ?_)
              unfold setNd
              repeat' split
              all_goals exact ⟨rfl, rfl, rfl, rfl⟩
  · exact H
theorem ri_new : RI newM := by
  have h0 : ∀ (k : Nat) (n : Nd), newM[k]? = some n → k = 0 ∧ n = addedNd (dirNd 493 0) 1 [] := fun k n h => by
    have hk : k = 0 := by
      have := (List.getElem?_eq_some_iff.1 h).1
      simp [newM] at this
      exact this
    subst hk
    exact ⟨rfl, by simpa [newM] using h.symm⟩
  refine ⟨fun k n h => ?_, fun k n h => ?_, fun k n h => ?_, fun k n h => ?_, fun k n h => ?_, ⟨_, rfl, rfl, rfl⟩⟩
  · obtain ⟨rfl, rfl⟩ := h0 k n h; intro e he; cases he
  · obtain ⟨rfl, rfl⟩ := h0 k n h; exact List.Pairwise.nil
  · obtain ⟨rfl, rfl⟩ := h0 k n h; intro e he; cases he
  · obtain ⟨rfl, rfl⟩ := h0 k n h; intro e he; cases he
  · obtain ⟨rfl, rfl⟩ := h0 k n h; exact ⟨fun _ => rfl, .inl rfl⟩
theorem sameT_self (s : ByteArray) : sameT s s = true := by unfold sameT; simp
theorem goodB_parts {s : ByteArray} (h : goodB s = true) : 1 ≤ s.size ∧ s.size ≤ 255 ∧ s.toList ≠ [46] ∧ s.toList ≠ [46, 46] ∧ ∀ b ∈ s.data.toList, b ≠ 47 := by
  unfold goodB at h
  simp only [Bool.and_eq_true, decide_eq_true_eq, Bool.not_eq_true', beq_eq_false_iff_ne, decide_eq_false_iff_not] at h
  obtain ⟨h1, h2, h3, h4, h5⟩ := h
  refine ⟨h1, h2, h3, h4, fun b hb q => h5 ?_⟩
  subst q
  have key : ∀ l : List UInt8, (47 : UInt8) ∈ l → 0 ≤ Lib.indexAny l hardL := fun l => by
    induction l with
    | nil => intro h; cases h
    | cons x r ih =>
      intro h
      rw [Lib.indexAny]
      split
      · exact Int.le_refl _
      · rename_i hx
        have hr : (47 : UInt8) ∈ r := by
          rcases List.mem_cons.1 h with e | e
          · subst e; exact absurd (by decide) hx
          · exact e
        have := ih hr
        rw [if_neg (by intro z; have := beq_iff_eq.1 z; omega)]
        omega
  exact key _ hb
theorem mkB_list (l : List UInt8) : (mkB l).data.toList = l := by unfold mkB; simp
end Go.Proofs.YtpikndeefiediaaGreatDoor.V

namespace Go.Proofs.YtpikndeefiediaaGreatDoor.V
open Go.Proofs.YtpikndeefiediaaGreatDoor.P
open Go.RowKit

end Go.Proofs.YtpikndeefiediaaGreatDoor.V

namespace Go.Proofs.YtpikndeefiediaaGreatDoor.G
open Go.Proofs.YtpikndeefiediaaGreatDoor.V Go.Proofs.YtpikndeefiediaaGreatDoor.P Go.Proofs.YtpikndeefiediaaGreatDoor.O

structure UI (M : List Nd) : Prop where
  up : ∀ (k : Nat) (n : Nd), M[k]? = some n → ∀ e ∈ n.ents, ∀ (j : Nat) (m : Nd), e.2 = (j : Int) → M[j]? = some m → m.kind = 2 → m.up = (k : Int) ∧ m.ino ≠ 1
  cup : ∀ (j : Nat) (m : Nd) (r : Nat) (q : Nd), M[j]? = some m → m.over = (r : Int) → M[r]? = some q → q.up = m.up
  one : ∀ (k : Nat) (n : Nd), M[k]? = some n → n.ents.Pairwise fun a b => ∀ (j : Nat) (m : Nd), a.2 = (j : Int) → M[j]? = some m → m.kind = 2 → a.2 ≠ b.2
  inj : ∀ (j1 : Nat) (m1 : Nd) (j2 : Nat) (m2 : Nd), M[j1]? = some m1 → M[j2]? = some m2 → m1.over = m2.over → m1.ino ≠ 1 → m2.ino ≠ 1 → j1 = j2
theorem over_lt {M : List Nd} (R : RI M) {k : Nat} {n : Nd} (h : M[k]? = some n) : n.over < (M.length : Int) := by
  have hk := (List.getElem?_eq_some_iff.1 h).1
  rcases (R.cov k n h).2 with q | ⟨_, j, m, hj, hm, _, _⟩
  · omega
  · have := (List.getElem?_eq_some_iff.1 hm).1; omega
theorem UI.same {M : List Nd} {i : Nat} {f : Nd → Nd} (H : UI M) (hf : ∀ n, (f n).ents = n.ents ∧ (f n).kind = n.kind ∧ (f n).ino = n.ino ∧ (f n).over = n.over ∧ (f n).up = n.up) : UI (M.modify i f) := by
  have e1 : ∀ (k : Nat) (x : Nd), (if i = k then f x else x).ents = x.ents := fun k x => by split; exact (hf x).1; rfl
  have e2 : ∀ (k : Nat) (x : Nd), (if i = k then f x else x).kind = x.kind := fun k x => by split; exact (hf x).2.1; rfl
  have e3 : ∀ (k : Nat) (x : Nd), (if i = k then f x else x).ino = x.ino := fun k x => by split; exact (hf x).2.2.1; rfl
  have e4 : ∀ (k : Nat) (x : Nd), (if i = k then f x else x).over = x.over := fun k x => by split; exact (hf x).2.2.2.1; rfl
  have e5 : ∀ (k : Nat) (x : Nd), (if i = k then f x else x).up = x.up := fun k x => by split; exact (hf x).2.2.2.2; rfl
  refine ⟨fun k y hy e he j m hj hm hk => ?_, fun j m r q hm ho hq => ?_, fun k y hy => ?_, fun j1 m1 j2 m2 h1 h2 ho n1 n2 => ?_⟩
  · obtain ⟨x, hx, rfl⟩ := mod_at hy
    obtain ⟨z, hz, rfl⟩ := mod_at hm
    rw [e1] at he
    rw [e2] at hk
    rw [e5, e3]
    exact H.up k x hx e he j z hj hz hk
  · obtain ⟨x, hx, rfl⟩ := mod_at hm
    obtain ⟨z, hz, rfl⟩ := mod_at hq
    rw [e4] at ho
    rw [e5, e5]
    exact H.cup j x r z hx ho hz
  · obtain ⟨x, hx, rfl⟩ := mod_at hy
    rw [e1]
    refine (H.one k x hx).imp (fun h j m hj hm hk => ?_)
    obtain ⟨z, hz, rfl⟩ := mod_at hm
    rw [e2] at hk
    exact h j z hj hz hk
  · obtain ⟨x, hx, rfl⟩ := mod_at h1
    obtain ⟨z, hz, rfl⟩ := mod_at h2
    rw [e4, e4] at ho
    rw [e3] at n1 n2
    exact H.inj j1 x j2 z hx hz ho n1 n2
theorem UI.app {M : List Nd} {x : Nd} (H : UI M) (R : RI M) (he : x.ents = []) (ho : x.over = (M.length : Int)) : UI (M ++ [x]) := by
  have old : ∀ {k : Nat} {n y : Nd}, M[k]? = some n → ∀ e ∈ n.ents, ∀ (j : Nat), e.2 = (j : Int) → (M ++ [x])[j]? = some y → M[j]? = some y := fun hn e hee j hj hy => by
    have := (R.num _ _ hn e hee).2
    rcases app_at hy with q | ⟨q, _⟩
    · exact q
    · omega
  refine ⟨fun k y hy e hee j m hj hm hk => ?_, fun j m r q hm hor hq => ?_, fun k y hy => ?_, fun j1 m1 j2 m2 h1 h2 hoo n1 n2 => ?_⟩
  · rcases app_at hy with q | ⟨rfl, rfl⟩
    · exact H.up k y q e hee j m hj (old q e hee j hj hm) hk
    · rw [he] at hee; cases hee
  · rcases app_at hm with z | ⟨rfl, rfl⟩
    · have := over_lt R z
      rcases app_at hq with y | ⟨y, _⟩
      · exact H.cup j m r q z hor y
      · omega
    · rw [ho] at hor
      have e : r = M.length := by omega
      subst e
      rw [app_last] at hq
      rw [Option.some.inj hq]
  · rcases app_at hy with q | ⟨rfl, rfl⟩
    · refine (List.pairwise_iff_forall_sublist.2 fun {a b} hs j m hj hm hk => ?_)
      have := List.pairwise_iff_forall_sublist.1 (H.one k y q) hs
      exact this j m hj (old q a (hs.subset List.mem_cons_self) j hj hm) hk
    · rw [he]; exact List.Pairwise.nil
  · rcases app_at h1 with q1 | ⟨rfl, rfl⟩
    · rcases app_at h2 with q2 | ⟨rfl, rfl⟩
      · exact H.inj j1 m1 j2 m2 q1 q2 hoo n1 n2
      · have := over_lt R q1; omega
    · rcases app_at h2 with q2 | ⟨rfl, rfl⟩
      · have := over_lt R q2; omega
      · rfl
theorem UI.enter {M : List Nd} {i j : Nat} {s : ByteArray} (H : UI M) (hnew : ∀ m, M[j]? = some m → m.kind = 2 → m.up = (i : Int) ∧ m.ino ≠ 1 ∧ ∀ (k : Nat) (n : Nd), M[k]? = some n → ∀ e ∈ n.ents, e.2 ≠ (j : Int)) : UI (M.modify i (addEnt s (j : Int))) := by
  have e2 : ∀ (k : Nat) (x : Nd), (if i = k then addEnt s (j : Int) x else x).kind = x.kind := fun k x => by split <;> rfl
  have e3 : ∀ (k : Nat) (x : Nd), (if i = k then addEnt s (j : Int) x else x).ino = x.ino := fun k x => by split <;> rfl
  have e4 : ∀ (k : Nat) (x : Nd), (if i = k then addEnt s (j : Int) x else x).over = x.over := fun k x => by split <;> rfl
  have e5 : ∀ (k : Nat) (x : Nd), (if i = k then addEnt s (j : Int) x else x).up = x.up := fun k x => by split <;> rfl
  refine ⟨fun k y hy e hee j' m hj hm hk => ?_, fun j' m r q hm ho hq => ?_, fun k y hy => ?_, fun j1 m1 j2 m2 h1 h2 ho n1 n2 => ?_⟩
  · obtain ⟨x, hx, rfl⟩ := mod_at hy
    obtain ⟨z, hz, rfl⟩ := mod_at hm
    rw [e2] at hk
    rw [e5, e3]
    have hee' : e ∈ x.ents ∨ (i = k ∧ e = (s, (j : Int))) := by
      split at hee
      · rename_i q
        have hee : e ∈ x.ents ++ [(s, (j : Int))] := hee
        rcases List.mem_append.1 hee with w | w
        · exact .inl w
        · exact .inr ⟨q, by simpa using w⟩
      · exact .inl hee
    rcases hee' with q | ⟨rfl, rfl⟩
    · exact H.up k x hx e q j' z hj hz hk
    · have : j = j' := by
        have : (j : Int) = (j' : Int) := hj
        omega
      subst this
      obtain ⟨a, b, _⟩ := hnew z hz hk
      exact ⟨a, b⟩
  · obtain ⟨x, hx, rfl⟩ := mod_at hm
    obtain ⟨z, hz, rfl⟩ := mod_at hq
    rw [e4] at ho
    rw [e5, e5]
    exact H.cup j' x r z hx ho hz
  · obtain ⟨x, hx, rfl⟩ := mod_at hy
    have hold : x.ents.Pairwise fun a b => ∀ (j' : Nat) (m : Nd), a.2 = (j' : Int) → (M.modify i (addEnt s (j : Int)))[j']? = some m → m.kind = 2 → a.2 ≠ b.2 :=
      (H.one k x hx).imp (fun h j' m hj hm hk => by
        obtain ⟨z, hz, rfl⟩ := mod_at hm
        rw [e2] at hk
        exact h j' z hj hz hk)
    split
    · show (x.ents ++ [(s, (j : Int))]).Pairwise _
      refine List.pairwise_append.2 ⟨hold, List.pairwise_singleton _ _, fun a ha b hb j' m hj hm hk => ?_⟩
      obtain rfl : b = (s, (j : Int)) := by simpa using hb
      obtain ⟨z, hz, rfl⟩ := mod_at hm
      rw [e2] at hk
      intro q
      have : j' = j := by
        have : (j' : Int) = (j : Int) := hj.symm.trans q
        omega
      subst this
      obtain ⟨_, _, c⟩ := hnew z hz hk
      exact c k x hx a ha q
    · exact hold
  · obtain ⟨x, hx, rfl⟩ := mod_at h1
    obtain ⟨z, hz, rfl⟩ := mod_at h2
    rw [e4, e4] at ho
    rw [e3] at n1 n2
    exact H.inj j1 x j2 z hx hz ho n1 n2
theorem UI.cover {M : List Nd} {i : Nat} {x y : Nd} (H : UI M) (R : RI M) (he : x.ents = []) (ho : x.over = (M.length : Int)) (hx1 : x.ino = 1) (hup : x.up = y.up) (hy : M[i]? = some y) : UI ((M ++ [x]).modify i (setOver (M.length : Int))) := by
  have H' := H.app R he ho
  have hi := (List.getElem?_eq_some_iff.1 hy).1
  have e1 : ∀ (k : Nat) (z : Nd), (if i = k then setOver (M.length : Int) z else z).ents = z.ents := fun k z => by split <;> rfl
  have e2 : ∀ (k : Nat) (z : Nd), (if i = k then setOver (M.length : Int) z else z).kind = z.kind := fun k z => by split <;> rfl
  have e3 : ∀ (k : Nat) (z : Nd), (if i = k then setOver (M.length : Int) z else z).ino = z.ino := fun k z => by split <;> rfl
  have e5 : ∀ (k : Nat) (z : Nd), (if i = k then setOver (M.length : Int) z else z).up = z.up := fun k z => by split <;> rfl
  refine ⟨fun k n hn e hee j m hj hm hk => ?_, fun j m r q hm hor hq => ?_, fun k n hn => ?_, fun j1 m1 j2 m2 h1 h2 hoo n1 n2 => ?_⟩
  · obtain ⟨z, hz, rfl⟩ := mod_at hn
    obtain ⟨u, hu, rfl⟩ := mod_at hm
    rw [e1] at hee
    rw [e2] at hk
    rw [e5, e3]
    exact H'.up k z hz e hee j u hj hu hk
  · obtain ⟨z, hz, rfl⟩ := mod_at hm
    obtain ⟨u, hu, rfl⟩ := mod_at hq
    rw [e5, e5]
    by_cases q : i = j
    · subst q
      rw [if_pos rfl] at hor
      have hr : r = M.length := by
        have : (M.length : Int) = (r : Int) := hor
        omega
      subst hr
      rw [app_last] at hu
      obtain rfl := Option.some.inj hu
      rcases app_at hz with w | ⟨w, _⟩
      · rw [hy] at w
        rw [← Option.some.inj w]
        exact hup
      · omega
    · rw [if_neg q] at hor
      exact H'.cup j z r u hz hor hu
  · obtain ⟨z, hz, rfl⟩ := mod_at hn
    rw [e1]
    refine (H'.one k z hz).imp (fun h j m hj hm hk => ?_)
    obtain ⟨u, hu, rfl⟩ := mod_at hm
    rw [e2] at hk
    exact h j u hj hu hk
  · obtain ⟨z1, hz1, rfl⟩ := mod_at h1
    obtain ⟨z2, hz2, rfl⟩ := mod_at h2
    rw [e3] at n1 n2
    have low : ∀ {j : Nat} {z : Nd}, (M ++ [x])[j]? = some z → z.ino ≠ 1 → z.over < (M.length : Int) := fun hz hn => by
      rcases app_at hz with w | ⟨_, rfl⟩
      · exact over_lt R w
      · exact absurd hx1 hn
    by_cases q1 : i = j1
    · by_cases q2 : i = j2
      · omega
      · rw [if_pos q1, if_neg q2] at hoo
        have := low hz2 n2
        have : (M.length : Int) = z2.over := hoo
        omega
    · by_cases q2 : i = j2
      · rw [if_neg q1, if_pos q2] at hoo
        have := low hz1 n1
        have : z1.over = (M.length : Int) := hoo
        omega
      · rw [if_neg q1, if_neg q2] at hoo
        exact H'.inj j1 z1 j2 z2 hz1 hz2 hoo n1 n2
theorem cnt_some {d : Int} : ∀ {M : List Nd}, (∃ n ∈ M, n.dev = d) → 1 ≤ cntD d M
  | [], ⟨n, h, _⟩ => by cases h
  | m :: r, ⟨n, h, hd⟩ => by
    have h0 : ∀ l : List Nd, 0 ≤ cntD d l := fun l => by
      induction l with
      | nil => exact Int.le_refl _
      | cons a l ih => rw [cntD]; split <;> omega
    rw [cntD]
    rcases List.mem_cons.1 h with rfl | h
    · rw [if_pos hd]; have := h0 r; omega
    · have := cnt_some ⟨n, h, hd⟩
      split <;> omega
theorem UI.built {M : List Nd} {i : Nat} {s : ByteArray} {n d : Nd} (H : UI M) (R : RI M) (hd : M[i]? = some d) (he : n.ents = []) (hu : n.kind = 2 → n.up = (i : Int)) : UI (builtM M i s n d.dev) := by
  unfold builtM
  have hi := (List.getElem?_eq_some_iff.1 hd).1
  refine UI.same ?_ (fun n => ⟨rfl, rfl, rfl, rfl, rfl⟩)
  refine UI.enter (H.app R he rfl) (fun m hm hk => ?_)
  rw [app_last] at hm
  obtain rfl := Option.some.inj hm
  refine ⟨hu hk, ?_, fun k z hz e hee q => ?_⟩
  · have := cnt_some (d := d.dev) (M := M) ⟨d, List.mem_of_getElem? hd, rfl⟩
    show 1 + cntD d.dev M ≠ 1
    omega
  · rcases app_at hz with w | ⟨_, rfl⟩
    · have := (R.num k z w e hee).2
      omega
    · have hee : e ∈ n.ents := hee
      rw [he] at hee
      cases hee
theorem UI.do_ {M : List Nd} {c : Chg} (H : UI M) (R : RI M) (hD : DevInv M) : UI (doM M c) := by
  unfold doM
  split
  · rename_i hw
    have hat : ∀ (_ : 0 ≤ c.kind) (_ : c.kind < 4), ∃ (i : Nat) (x : Nd), c.at_ = (i : Int) ∧ M[i]? = some x ∧ atM M c.at_ = some x := fun k0 k3 => by
      obtain ⟨x, hx, h1, h2, h3⟩ := wrong_entry hw k0 k3
      obtain ⟨i, hi, hxi⟩ := atM_some hx
      exact ⟨i, x, hi, hxi, hx⟩
    unfold carryM
    split
    · obtain ⟨i, x, h1, h2, h3⟩ := hat (by omega) (by omega)
      rw [h3, h1, Int.toNat_natCast]
      exact H.built R h2 rfl (fun _ => rfl)
    · split
      · obtain ⟨i, x, h1, h2, h3⟩ := hat (by omega) (by omega)
        rw [h3, h1, Int.toNat_natCast]
        exact H.built R h2 rfl (fun q => by cases q)
      · split
        · rcases wrong_cases hw with ⟨_, _, q, _⟩ | ⟨_, x', y, _, hy, hyk⟩ | ⟨q, _⟩ | ⟨q, _⟩
          · omega
          · obtain ⟨j, hj, hyj⟩ := atM_some hy
            refine UI.same ?_ (fun n => ⟨rfl, rfl, rfl, rfl, rfl⟩)
            rw [hj]
            exact H.enter (fun m hm hk => by rw [hyj] at hm; obtain rfl := Option.some.inj hm; exact absurd hk hyk)
          · omega
          · omega
        · split
          · obtain ⟨i, x, h1, h2, h3⟩ := hat (by omega) (by omega)
            rw [h3, h1, Int.toNat_natCast]
            exact H.built R h2 rfl (fun q => by cases q)
          · split
            · rename_i k7
              obtain ⟨y, hy, h1, h2, h3⟩ := wrong_mount hw k7
              obtain ⟨j, hj, hyj⟩ := atM_some hy
              unfold coveredM
              rw [hy, hj, Int.toNat_natCast]
              refine H.cover (y := y) R rfl rfl ?_ rfl hyj
              show 1 + cntD _ M = 1
              rw [cnt_new hD (by omega)]
              rfl
            · refine H.same (fun n => ?_)
              unfold setNd
              repeat' split
              all_goals exact ⟨rfl, rfl, rfl, rfl, rfl⟩
  · exact H
theorem ui_new : UI newM := by
  have h0 : ∀ (k : Nat) (n : Nd), newM[k]? = some n → k = 0 ∧ n = addedNd (dirNd 493 0) 1 [] := fun k n h => by
    have hk : k = 0 := by
      have := (List.getElem?_eq_some_iff.1 h).1
      simp [newM] at this
      exact this
    subst hk
    exact ⟨rfl, by simpa [newM] using h.symm⟩
  refine ⟨fun k n h e he => ?_, fun j m r q hm ho hq => ?_, fun k n h => ?_, fun j1 m1 j2 m2 h1 h2 _ _ _ => ?_⟩
  · obtain ⟨rfl, rfl⟩ := h0 k n h; cases he
  · obtain ⟨rfl, rfl⟩ := h0 j m hm; obtain ⟨rfl, rfl⟩ := h0 r q hq; rfl
  · obtain ⟨rfl, rfl⟩ := h0 k n h; exact List.Pairwise.nil
  · exact (h0 j1 m1 h1).1.trans (h0 j2 m2 h2).1.symm
end Go.Proofs.YtpikndeefiediaaGreatDoor.G
