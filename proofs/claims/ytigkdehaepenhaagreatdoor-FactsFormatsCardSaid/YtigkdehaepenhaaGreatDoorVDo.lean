/-
  What FS.Do and New make: the model of a file system as a list of nodes, and that the program keeps it. Conditions: the file system is of at most 1000000 entries and links.
-/
import Derived.Test.YtigkdehaepenhaaGreatDoorVCarry
namespace Go.Proofs.YtigkdehaepenhaaGreatDoor.V
open Go.RowKit

/-- The node of that number, in a list of nodes. -/
def atM (M : List Nd) (i : Int) : Option Nd := if 0 ≤ i ∧ i < (M.length : Int) then M[i.toNat]? else none
theorem ndAt_M (h : Fsh) (i : Int) : ndAt h i = atM h.M i := by
  unfold ndAt atM Fsh.M
  rw [List.length_map]
  split
  · rw [List.getElem?_map]
  · rfl
theorem ndAt_fun (h : Fsh) : ndAt h = atM h.M := funext (ndAt_M h)

/-- What a change makes, if nothing is wrong with it. -/
def carryM (M : List Nd) (c : Chg) : List Nd × Int :=
  if c.kind = 0 then (builtM M c.at_.toNat c.name (dirNd (c.a % 4096) c.at_) ((atM M c.at_).elim 0 (·.dev)), (M.length : Int))
  else if c.kind = 1 then (builtM M c.at_.toNat c.name (fileNd (c.a % 4096) c.n (blkOf c.n)) ((atM M c.at_).elim 0 (·.dev)), (M.length : Int))
  else if c.kind = 2 then ((M.modify c.at_.toNat (addEnt c.name c.to)).modify (if (atM M c.to).elim 0 (·.kind) = 2 then c.at_.toNat else c.to.toNat) moreLinks, 0)
  else if c.kind = 3 then (builtM M c.at_.toNat c.name (linkNd c.text) ((atM M c.at_).elim 0 (·.dev)), (M.length : Int))
  else if c.kind = 7 then (coveredM M c.to.toNat c.a ((atM M c.to).elim 0 (·.up)), (M.length : Int))
  else (M.modify c.to.toNat (setNd c), 0)
def wrongM (M : List Nd) (c : Chg) : Int := refuseE (atM M) M.length c
def doM (M : List Nd) (c : Chg) : List Nd := if wrongM M c = 0 then (carryM M c).1 else M
def doR (M : List Nd) (c : Chg) : Int := if wrongM M c = 0 then (carryM M c).2 else 0

/-- All is small: what the walks ask. -/
def Small (M : List Nd) (k : Nat) : Prop := M.length ≤ 300 ∧ ∀ n ∈ M, 0 ≤ n.links ∧ n.links ≤ 2 + (k : Int) ∧ n.ents.length ≤ k

theorem atM_some {M : List Nd} {i : Int} {n : Nd} (h : atM M i = some n) : ∃ k : Nat, i = (k : Int) ∧ M[k]? = some n := by
  unfold atM at h
  split at h
  · exact ⟨i.toNat, by omega, h⟩
  · cases h
theorem fs_at {h : Fsh} {k : Nat} {n : Nd} (hn : h.M[k]? = some n) : ∃ x, h.X[k]? = some x ∧ x.1 = n := by
  unfold Fsh.M at hn
  rw [List.getElem?_map] at hn
  exact Option.map_eq_some_iff.1 hn

theorem wrong_cases {M : Int → Option Nd} {len : Nat} {c : Chg} (h : refuseE M len c = 0) :
    (∃ x, M c.at_ = some x ∧ (c.kind = 0 ∨ (c.kind = 1 ∧ 0 ≤ c.n) ∨ c.kind = 3) ∧ len < 300) ∨ (c.kind = 2 ∧ ∃ x y, M c.at_ = some x ∧ M c.to = some y ∧ y.kind ≠ 2) ∨ (c.kind = 7 ∧ len < 300 ∧ ∃ y, M c.to = some y) ∨ ((c.kind = 4 ∨ c.kind = 5 ∨ (c.kind = 6 ∧ 0 ≤ c.a ∧ c.a ≤ 2) ∨ c.kind = 8) ∧ ∃ y, M c.to = some y) := by
  unfold refuseE at h
  split at h
  · cases h
  · rename_i hno
    unfold baseE at h hno
    split at h
    · rename_i hk
      rw [if_pos hk] at hno
      have h0 := h
      unfold entryE at h
      cases hx : M c.at_ with
      | none => rw [hx] at h; cases h
      | some x =>
        rw [hx] at h
        dsimp only at h
        split at h
        · split at h
          · split at h
            · cases h
            · by_cases k2 : c.kind = 2
              · rw [if_pos k2] at h
                unfold shareE at h
                cases hy : M c.to with
                | none => rw [hy] at h; cases h
                | some y =>
                  rw [hy] at h
                  dsimp only at h
                  split at h
                  · cases h
                  · rename_i hyk
                    exact .inr (.inl ⟨k2, x, y, rfl, rfl, hyk⟩)
              · rw [if_neg k2] at h
                refine .inl ⟨x, rfl, ?_, ?_⟩
                · split at h
                  · cases h
                  · rename_i q
                    rcases (show c.kind = 0 ∨ c.kind = 1 ∨ c.kind = 3 from by omega) with e | e | e
                    · exact .inl e
                    · exact .inr (.inl ⟨e, by omega⟩)
                    · exact .inr (.inr e)
                · apply Classical.byContradiction
                  intro hl
                  refine hno ⟨h0, ?_, by omega⟩
                  unfold makesB
                  rcases (show c.kind = 0 ∨ c.kind = 1 ∨ c.kind = 3 from by omega) with e | e | e <;> rw [e] <;> rfl
          · cases h
        · cases h
    · rename_i hk
      rw [if_neg hk] at hno
      split at h
      · rename_i hk2
        rw [if_pos hk2] at hno
        have h0 := h
        unfold nodeE at h
        cases hy : M c.to with
        | none => rw [hy] at h; cases h
        | some y =>
          rw [hy] at h
          dsimp only at h
          split at h
          · cases h
          · rename_i q
            by_cases k7 : c.kind = 7
            · refine .inr (.inr (.inl ⟨k7, ?_, y, rfl⟩))
              apply Classical.byContradiction
              intro hl
              exact hno ⟨h0, by unfold makesB; rw [k7]; rfl, by omega⟩
            · exact .inr (.inr (.inr ⟨by omega, y, rfl⟩))
      · cases h

theorem small_bd {h : Fsh} {k : Nat} (hS : Small h.M k) (hk : k ≤ 900000) : ∀ x ∈ h.X, (0 ≤ x.1.links ∧ x.1.links ≤ 1000000) ∧ x.1.ents.length ≤ 1000000 := by
  intro x hx
  have := hS.2 x.1 (List.mem_map_of_mem hx)
  omega

set_option maxHeartbeats 1000000 in
theorem carry_any (h : Fsh) (c : Chg) (k : Nat) (w : World) (H : Fs h w) (hS : Small h.M k) (hk : k ≤ 900000) (hn : 0 < h.X.length) (hc : -9223372036854775808 ≤ c.n ∧ c.n ≤ 9223372036854775807) (hw : wrongM h.M c = 0) :
    Calls Tryz.prog 40 #[.pointer (some ⟨h.p, 0, none⟩), chgV c] w fun e w' => e = .returned (.int .i64 (carryM h.M c).2) ∧
      ∃ h', h'.p = h.p ∧ h'.M = (carryM h.M c).1 ∧ Fs h' w' ∧ Grew h h' w w' := by
  have hB := small_bd hS hk
  have hml : h.M.length = h.X.length := List.length_map ..
  have hX : h.X.length ≤ 1000000 := by have := hS.1; omega
  rcases wrong_cases hw with ⟨n, hx, hk3, hl⟩ | ⟨k2, n, m, hx, hy, hyk⟩ | ⟨k7, hl, m, hy⟩ | ⟨hks, m, hy⟩
  · obtain ⟨i, hi, hxi⟩ := atM_some hx
    obtain ⟨x, hxx, rfl⟩ := fs_at hxi
    obtain ⟨b1, b2⟩ := hB x (List.mem_of_getElem? hxx)
    have hd : (atM h.M c.at_).elim 0 (·.dev) = x.1.dev := by rw [hx]; rfl
    have hit : c.at_.toNat = i := by omega
    rcases hk3 with k0 | ⟨k1, hn0⟩ | k3
    · have := carry_0 h i x c w H k0 hi hxx hX b1 b2
      unfold carryM
      rw [if_pos k0, hd, hit, hml]
      exact this
    · have := carry_1 h i x c w H k1 hi hxx hX b1 b2 hn0 hc.2
      unfold carryM
      rw [if_neg (by omega), if_pos k1, hd, hit, hml]
      exact this
    · have := carry_3 h i x c w H k3 hi hxx hX b1 b2
      unfold carryM
      rw [if_neg (by omega), if_neg (by omega), if_neg (by omega), if_pos k3, hd, hit, hml]
      exact this
  · obtain ⟨i, hi, hxi⟩ := atM_some hx
    obtain ⟨x, hxx, rfl⟩ := fs_at hxi
    obtain ⟨b1, b2⟩ := hB x (List.mem_of_getElem? hxx)
    obtain ⟨j, hj, hyj⟩ := atM_some hy
    obtain ⟨y, hyy, rfl⟩ := fs_at hyj
    obtain ⟨b3, b4⟩ := hB y (List.mem_of_getElem? hyy)
    have hd : (atM h.M c.to).elim 0 (·.kind) = y.1.kind := by rw [hy]; rfl
    have := carry_2 h i j x y c w H k2 hi hxx hj hyy _ rfl b3 b1 b2
    unfold carryM
    rw [if_neg (by omega), if_neg (by omega), if_pos k2, hd, show c.at_.toNat = i by omega, show c.to.toNat = j by omega, hj]
    exact this
  · obtain ⟨j, hj, hyj⟩ := atM_some hy
    obtain ⟨y, hyy, rfl⟩ := fs_at hyj
    have hd : (atM h.M c.to).elim 0 (·.up) = y.1.up := by rw [hy]; rfl
    have := carry_7 h j y c w H k7 hj hyy hX
    unfold carryM
    rw [if_neg (by omega), if_neg (by omega), if_neg (by omega), if_neg (by omega), if_pos k7, hd, show c.to.toNat = j by omega, hml]
    exact this
  · obtain ⟨j, hj, hyj⟩ := atM_some hy
    obtain ⟨y, hyy, rfl⟩ := fs_at hyj
    have := carry_set h j y c w H hks hj hyy
    unfold carryM
    rw [if_neg (by omega), if_neg (by omega), if_neg (by omega), if_neg (by omega), if_neg (by omega), show c.to.toNat = j by omega]
    exact this

def DoPost (h : Fsh) (c : Chg) (w w' : World) : Prop := ∃ h', h'.p = h.p ∧ h'.M = doM h.M c ∧ Fs h' w' ∧ Grew h h' w w'

set_option maxRecDepth 100000 in
set_option maxHeartbeats 4000000 in
theorem do_any (h : Fsh) (c : Chg) (k : Nat) (w : World) (H : Fs h w) (hS : Small h.M k) (hk : k ≤ 900000) (hn : 0 < h.X.length) (hc : -9223372036854775808 ≤ c.n ∧ c.n ≤ 9223372036854775807) :
    Calls Tryz.prog 19 #[.pointer (some ⟨h.p, 0, none⟩), chgV c] w fun e w' => e = .returned (.tuple #[.int .i64 (doR h.M c), .int .i64 (wrongM h.M c)]) ∧ DoPost h c w w' := by
  have HBa := Lib.hid (show ∀ o, Below w.heap.size w (w.alloc o) from fun o => (Below.refl _ _).alloc (Nat.le_refl _) _)
  have HK := Lib.hid (show ∀ W, Below w.heap.size w W → Fs h W from fun W hb => H.keep hb)
  have hml : h.M.length = h.X.length := List.length_map ..
  have HR := Lib.hid (refuse_any h c (w.alloc (chgBox c)) (H.keep (HBa.out _)) hn (fun x hx => (small_bd hS hk x hx).2))
  have HWe := Lib.hid (show refuseE (ndAt h) h.X.length c = wrongM h.M c from by unfold wrongM; rw [ndAt_fun, hml])
  have HC := Lib.hid (fun (W : World) (hb : Below w.heap.size w W) (hw : wrongM h.M c = 0) => carry_any h c k W (HK.out W hb) hS hk hn hc hw)
  have HCV := Lib.hid (show chgV c = .agg #[.int .i64 c.kind, .int .i64 c.at_, .int .i64 c.to, .string c.name, .string c.text, .int .i64 c.a, .int .i64 c.b, .int .i64 c.n] from rfl)
  clear hS hk hn hc hml H
  rw [HCV.out]
  obtain ⟨e0, he0⟩ : ∃ e0, wrongM h.M c = e0 := ⟨_, rfl⟩
  have HE := Lib.hid he0
  rw [he0]
  by_cases h0 : e0 = 0
  · subst h0
    have HD := Lib.hid (show doR h.M c = (carryM h.M c).2 ∧ doM h.M c = (carryM h.M c).1 from ⟨by unfold doR; rw [if_pos he0], by unfold doM; rw [if_pos he0]⟩)
    rw [HD.out.1]
    clear he0
    go_enter Tryz.func19, Tryz.ntmps19
    go_wp2_with (first
      | (go_at_call 39; rw [← HCV.out]; refine HR.out.mono ?_; rintro e w2 ⟨rfl, hb2⟩; rw [HWe.out, HE.out]; have HB2 := Lib.hid (below_two (HBa.out _) hb2); obtain ⟨q0, q1, q2, q3, q4, q5, q6, q7⟩ := chg_cells (box_keep hb2); clear hb2)
      | (go_at_call 40; rw [← HCV.out]; refine (HC.out _ HB2.out HE.out).mono ?_; rintro e w3 ⟨rfl, h', hp', hm', H3, G3⟩; have R := Lib.hid (show DoPost h c w w3 from ⟨h', hp', hm'.trans HD.out.2.symm, H3, (Grew.of_below HB2.out).trans G3⟩); clear hp' hm' H3 G3))
    go_ret2
    exact ⟨rfl, R.out⟩
  · have b0 : (e0 != 0) = true := by simp [h0]
    have HD := Lib.hid (show doR h.M c = 0 ∧ doM h.M c = h.M from ⟨by unfold doR; rw [if_neg (by rw [he0]; exact h0)], by unfold doM; rw [if_neg (by rw [he0]; exact h0)]⟩)
    rw [HD.out.1]
    clear he0 h0
    go_enter Tryz.func19, Tryz.ntmps19
    go_wp2_with (go_at_call 39; rw [← HCV.out]; refine HR.out.mono ?_; rintro e w2 ⟨rfl, hb2⟩; rw [HWe.out, HE.out]; have HB2 := Lib.hid (below_two (HBa.out _) hb2); clear hb2)
    go_ret2
    exact ⟨rfl, h, rfl, HD.out.2.symm, HK.out _ HB2.out, Grew.of_below HB2.out⟩
end Go.Proofs.YtigkdehaepenhaaGreatDoor.V
