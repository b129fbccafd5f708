/-
  What FS.Do and New make.
  Conditions: each fact's own.
-/
import Derived.Test.YtfhagjnlliafiaaGreatDoorKVCarry
set_option linter.unusedVariables false
set_option maxHeartbeats 4000000
set_option maxRecDepth 100000
namespace Go.Proofs.YtfhagjnlliafiaaGreatDoor.V
open Go.RowKit
def atM (M : List Nd) (i : Int) : Option Nd := if 0 ≤ i ∧ i < (M.length : Int) then M[i.toNat]? else none
theorem ndAt_M (h : Fsh) (i : Int) : ndAt h i = atM h.M i := by
  unfold ndAt atM Fsh.M
  rw [List.length_map]
  split
  · rw [List.getElem?_map]
  · rfl
theorem ndAt_fun (h : Fsh) : ndAt h = atM h.M := funext (ndAt_M h)
def carryM (M : List Nd) (c : Chg) : List Nd × Int :=
  if c.kind = 0 then (builtM M c.at_.toNat c.name (dirNd (c.a % 4096) c.at_) ((atM M c.at_).elim 0 (·.dev)), (M.length : Int))
  else if c.kind = 1 then (builtM M c.at_.toNat c.name (fileNd (c.a % 4096) c.n (blkOf c.n)) ((atM M c.at_).elim 0 (·.dev)), (M.length : Int))
  else if c.kind = 2 then ((M.modify c.at_.toNat (addEnt c.name c.to)).modify (if (atM M c.to).elim 0 (·.kind) = 2 then c.at_.toNat else c.to.toNat) moreLinks, 0)
  else if c.kind = 3 then (builtM M c.at_.toNat c.name (linkNd c.text) ((atM M c.at_).elim 0 (·.dev)), (M.length : Int))
  else if c.kind = 7 then (coveredM M c.to.toNat c.a ((atM M c.to).elim 0 (·.up)), (M.length : Int))
  else (M.modify c.to.toNat (setNd c), 0)
def wrongM (M : List Nd) (c : Chg) : Int := refuseE (atM M) M.length c
def doM (M : List Nd) (c : Chg) : List Nd := if wrongM M c = 0 then (carryM M c).1 else M
def doR (M : List Nd) (c : Chg) : Int := if wrongM M c = 0 then (carryM M c).2 else 0
def Small (M : List Nd) (k : Nat) : Prop := M.length ≤ 300 ∧ ∀ n ∈ M, 0 ≤ n.links ∧ n.links ≤ 2 + (k : Int) ∧ n.ents.length ≤ k
theorem atM_some {M : List Nd} {i : Int} {n : Nd} (h : atM M i = some n) : ∃ k : Nat, i = (k : Int) ∧ M[k]? = some n := by
  unfold atM at h
  split at h
  · exact ⟨i.toNat, by omega, h⟩
  · cases h
theorem fs_at {h : Fsh} {k : Nat} {n : Nd} (hn : h.M[k]? = some n) : ∃ x, h.X[k]? = some x ∧ x.1 = n := by
  unfold Fsh.M at hn
  rw [List.getElem?_map] at hn
  exact Option.map_eq_some_iff.1 hn
theorem wrong_cases {M : Int → Option Nd} {len : Nat} {c : Chg} (h : refuseE M len c = 0) :
    (∃ x, M c.at_ = some x ∧ (c.kind = 0 ∨ (c.kind = 1 ∧ 0 ≤ c.n) ∨ c.kind = 3) ∧ len < 300) ∨ (c.kind = 2 ∧ ∃ x y, M c.at_ = some x ∧ M c.to = some y ∧ y.kind ≠ 2) ∨ (c.kind = 7 ∧ len < 300 ∧ ∃ y, M c.to = some y) ∨ ((c.kind = 4 ∨ c.kind = 5 ∨ (c.kind = 6 ∧ 0 ≤ c.a ∧ c.a ≤ 2) ∨ c.kind = 8) ∧ ∃ y, M c.to = some y) := by
  unfold refuseE at h
  split at h
  · cases h
  · rename_i hno
    unfold baseE at h hno
    split at h
    · rename_i hk
      rw [if_pos hk] at hno
      have h0 := h
      unfold entryE at h
      cases hx : M c.at_ with
      | none => rw [hx] at h; cases h
      | some x =>
        rw [hx] at h
        dsimp only at h
        split at h
        · split at h
          · split at h
            · cases h
            · by_cases k2 : c.kind = 2
              · rw [if_pos k2] at h
                unfold shareE at h
                cases hy : M c.to with
                | none => rw [hy] at h; cases h
                | some y =>
                  rw [hy] at h
                  dsimp only at h
                  split at h
                  · cases h
                  · rename_i hyk
                    exact .inr (.inl ⟨k2, x, y, rfl, rfl, hyk⟩)
              · rw [if_neg k2] at h
                refine .inl ⟨x, rfl, ?_, ?_⟩
                · split at h
                  · cases h
                  · rename_i q
                    rcases (show c.kind = 0 ∨ c.kind = 1 ∨ c.kind = 3 from by omega) with e | e | e
                    · exact .inl e
                    · exact .inr (.inl ⟨e, by omega⟩)
                    · exact .inr (.inr e)
                · apply Classical.byContradiction
                  intro hl
                  refine hno ⟨h0, ?_, by omega⟩
                  unfold makesB
                  rcases (show c.kind = 0 ∨ c.kind = 1 ∨ c.kind = 3 from by omega) with e | e | e <;> rw [e] <;> rfl
          · cases h
        · cases h
    · rename_i hk
      rw [if_neg hk] at hno
      split at h
      · rename_i hk2
        rw [if_pos hk2] at hno
        have h0 := h
        unfold nodeE at h
        cases hy : M c.to with
        | none => rw [hy] at h; cases h
        | some y =>
          rw [hy] at h
          dsimp only at h
          split at h
          · cases h
          · rename_i q
            by_cases k7 : c.kind = 7
            · refine .inr (.inr (.inl ⟨k7, ?_, y, rfl⟩))
              apply Classical.byContradiction
              intro hl
              exact hno ⟨h0, by unfold makesB; rw [k7]; rfl, by omega⟩
            · exact .inr (.inr (.inr ⟨by omega, y, rfl⟩))
      · cases h
theorem small_bd {h : Fsh} {k : Nat} (hS : Small h.M k) (hk : k ≤ 900000) : ∀ x ∈ h.X, (0 ≤ x.1.links ∧ x.1.links ≤ 1000000) ∧ x.1.ents.length ≤ 1000000 := by
  intro x hx
  have := hS.2 x.1 (List.mem_map_of_mem hx)
  omega
theorem carry_any (h : Fsh) (c : Chg) (k : Nat) (w : World) (H : Fs h w) (hS : Small h.M k) (hk : k ≤ 900000) (hn : 0 < h.X.length) (hc : -9223372036854775808 ≤ c.n ∧ c.n ≤ 9223372036854775807) (hw : wrongM h.M c = 0) :
    Calls Tryz.prog 38 #[.pointer (some ⟨h.p, 0, none⟩), chgV c] w fun e w' => e = .returned (.int .i64 (carryM h.M c).2) ∧
      ∃ h', h'.p = h.p ∧ h'.M = (carryM h.M c).1 ∧ Fs h' w' ∧ Grew h h' w w' := by
  have hB := small_bd hS hk
  have hml : h.M.length = h.X.length := List.length_map ..
  have hX : h.X.length ≤ 1000000 := by have := hS.1; omega
  rcases wrong_cases hw with ⟨n, hx, hk3, hl⟩ | ⟨k2, n, m, hx, hy, hyk⟩ | ⟨k7, hl, m, hy⟩ | ⟨hks, m, hy⟩
  · obtain ⟨i, hi, hxi⟩ := atM_some hx
    obtain ⟨x, hxx, rfl⟩ := fs_at hxi
    obtain ⟨b1, b2⟩ := hB x (List.mem_of_getElem? hxx)
    have hd : (atM h.M c.at_).elim 0 (·.dev) = x.1.dev := by rw [hx]; rfl
    have hit : c.at_.toNat = i := by omega
    rcases hk3 with k0 | ⟨k1, hn0⟩ | k3
    · have := carry_0 h i x c w H k0 hi hxx hX b1 b2
      unfold carryM
      rw [if_pos k0, hd, hit, hml]
      exact this
    · have := carry_1 h i x c w H k1 hi hxx hX b1 b2 hn0 hc.2
      unfold carryM
      rw [if_neg (by omega), if_pos k1, hd, hit, hml]
      exact this
    · have := carry_3 h i x c w H k3 hi hxx hX b1 b2
      unfold carryM
      rw [if_neg (by omega), if_neg (by omega), if_neg (by omega), if_pos k3, hd, hit, hml]
      exact this
  · obtain ⟨i, hi, hxi⟩ := atM_some hx
    obtain ⟨x, hxx, rfl⟩ := fs_at hxi
    obtain ⟨b1, b2⟩ := hB x (List.mem_of_getElem? hxx)
    obtain ⟨j, hj, hyj⟩ := atM_some hy
    obtain ⟨y, hyy, rfl⟩ := fs_at hyj
    obtain ⟨b3, b4⟩ := hB y (List.mem_of_getElem? hyy)
    have hd : (atM h.M c.to).elim 0 (·.kind) = y.1.kind := by rw [hy]; rfl
    have := carry_2 h i j x y c w H k2 hi hxx hj hyy _ rfl b3 b1 b2
    unfold carryM
    rw [if_neg (by omega), if_neg (by omega), if_pos k2, hd, show c.at_.toNat = i by omega, show c.to.toNat = j by omega, hj]
    exact this
  · obtain ⟨j, hj, hyj⟩ := atM_some hy
    obtain ⟨y, hyy, rfl⟩ := fs_at hyj
    have hd : (atM h.M c.to).elim 0 (·.up) = y.1.up := by rw [hy]; rfl
    have := carry_7 h j y c w H k7 hj hyy hX
    unfold carryM
    rw [if_neg (by omega), if_neg (by omega), if_neg (by omega), if_neg (by omega), if_pos k7, hd, show c.to.toNat = j by omega, hml]
    exact this
  · obtain ⟨j, hj, hyj⟩ := atM_some hy
    obtain ⟨y, hyy, rfl⟩ := fs_at hyj
    have := carry_set h j y c w H hks hj hyy
    unfold carryM
    rw [if_neg (by omega), if_neg (by omega), if_neg (by omega), if_neg (by omega), if_neg (by omega), show c.to.toNat = j by omega]
    exact this
def DoPost (h : Fsh) (c : Chg) (w w' : World) : Prop := ∃ h', h'.p = h.p ∧ h'.M = doM h.M c ∧ Fs h' w' ∧ Grew h h' w w'
theorem do_any (h : Fsh) (c : Chg) (k : Nat) (w : World) (H : Fs h w) (hS : Small h.M k) (hk : k ≤ 900000) (hn : 0 < h.X.length) (hc : -9223372036854775808 ≤ c.n ∧ c.n ≤ 9223372036854775807) :
    Calls Tryz.prog 18 #[.pointer (some ⟨h.p, 0, none⟩), chgV c] w fun e w' => e = .returned (.tuple #[.int .i64 (doR h.M c), .int .i64 (wrongM h.M c)]) ∧ DoPost h c w w' := by
  have HBa := Lib.hid (show ∀ o, Below w.heap.size w (w.alloc o) from fun o => (Below.refl _ _).alloc (Nat.le_refl _) _)
  have HK := Lib.hid (show ∀ W, Below w.heap.size w W → Fs h W from fun W hb => H.keep hb)
  have hml : h.M.length = h.X.length := List.length_map ..
  have HR := Lib.hid (refuse_any h c (w.alloc (chgBox c)) (H.keep (HBa.out _)) hn (fun x hx => (small_bd hS hk x hx).2))
  have HWe := Lib.hid (show refuseE (ndAt h) h.X.length c = wrongM h.M c from by unfold wrongM; rw [ndAt_fun, hml])
  have HC := Lib.hid (fun (W : World) (hb : Below w.heap.size w W) (hw : wrongM h.M c = 0) => carry_any h c k W (HK.out W hb) hS hk hn hc hw)
  have HCV := Lib.hid (show chgV c = .agg #[.int .i64 c.kind, .int .i64 c.at_, .int .i64 c.to, .string c.name, .string c.text, .int .i64 c.a, .int .i64 c.b, .int .i64 c.n] from rfl)
  clear hS hk hn hc hml H
  rw [HCV.out]
  obtain ⟨e0, he0⟩ : ∃ e0, wrongM h.M c = e0 := ⟨_, rfl⟩
  have HE := Lib.hid he0
  rw [he0]
  by_cases h0 : e0 = 0
  · subst h0
    have HD := Lib.hid (show doR h.M c = (carryM h.M c).2 ∧ doM h.M c = (carryM h.M c).1 from ⟨by unfold doR; rw [if_pos he0], by unfold doM; rw [if_pos he0]⟩)
    rw [HD.out.1]
    clear he0
    go_enter Tryz.func18, Tryz.ntmps18
    go_wp2_with (first
      | (go_at_call 37; rw [← HCV.out]; refine HR.out.mono ?_; rintro e w2 ⟨rfl, hb2⟩; rw [HWe.out, HE.out]; have HB2 := Lib.hid (below_two (HBa.out _) hb2); obtain ⟨q0, q1, q2, q3, q4, q5, q6, q7⟩ := chg_cells (box_keep hb2); clear hb2)
      | (go_at_call 38; rw [← HCV.out]; refine (HC.out _ HB2.out HE.out).mono ?_; rintro e w3 ⟨rfl, h', hp', hm', H3, G3⟩; have R := Lib.hid (show DoPost h c w w3 from ⟨h', hp', hm'.trans HD.out.2.symm, H3, (Grew.of_below HB2.out).trans G3⟩); clear hp' hm' H3 G3))
    go_ret2
    exact ⟨rfl, R.out⟩
  · have b0 : (e0 != 0) = true := by simp [h0]
    have HD := Lib.hid (show doR h.M c = 0 ∧ doM h.M c = h.M from ⟨by unfold doR; rw [if_neg (by rw [he0]; exact h0)], by unfold doM; rw [if_neg (by rw [he0]; exact h0)]⟩)
    rw [HD.out.1]
    clear he0 h0
    go_enter Tryz.func18, Tryz.ntmps18
    go_wp2_with (go_at_call 37; rw [← HCV.out]; refine HR.out.mono ?_; rintro e w2 ⟨rfl, hb2⟩; rw [HWe.out, HE.out]; have HB2 := Lib.hid (below_two (HBa.out _) hb2); clear hb2)
    go_ret2
    exact ⟨rfl, h, rfl, HD.out.2.symm, HK.out _ HB2.out, Grew.of_below HB2.out⟩
end Go.Proofs.YtfhagjnlliafiaaGreatDoor.V
namespace Go.Proofs.YtfhagjnlliafiaaGreatDoor.V
open Go.RowKit
def newM : List Nd := [addedNd (dirNd 493 0) 1 []]
def Has (w0 : World) (p : Nat) (M : List Nd) (w : World) : Prop := ∃ h : Fsh, h.p = p ∧ h.M = M ∧ Fs h w ∧ Below w0.heap.size w0 w ∧ ∀ k, h.foot k → w0.heap.size ≤ k
theorem fs_new (w : World) : Fs ⟨w.heap.size, .slice none 0 0, []⟩ (w.alloc (.cells #[.slice none 0 0] 84)) :=
  ⟨heap_alloc_new _ _, World.ownsRow_nil _ _ _ _, fun x hx => (by cases hx), fun i j _ x y hx _ => (by simp at hx)⟩
theorem new_any (w : World) :
    Calls Tryz.prog 15 #[] w fun e w' => ∃ p, e = .returned (.pointer (some ⟨p, 0, none⟩)) ∧ Has w p newM w' := by
  have HA := Lib.hid (fun (w2 : World) (hb : Below (w.alloc (.cells #[.slice none 0 0] 84)).heap.size (w.alloc (.cells #[.slice none 0 0] 84)) w2) => add_any ⟨w.heap.size, .slice none 0 0, []⟩ (dirNd 493 0) 1 w2 ((fs_new w).keep hb) rfl (by simp))
  go_enter Tryz.func15, Tryz.ntmps15
  go_wp2_with (first
    | (go_at_call 35; refine (directory_any 493 0 _).mono ?_; rintro e w2 ⟨rfl, hb2⟩; have HB2 := Lib.hid hb2; clear hb2)
    | (go_at_call 34; refine (HA.out _ HB2.out).mono ?_; rintro e w3 ⟨rfl, v', H3, G3⟩; have R := Lib.hid (show Has w w.heap.size newM w3 from ⟨_, rfl, rfl, H3, (below_two ((Below.refl _ _).alloc (Nat.le_refl _) _) HB2.out).trans (G3.below (Nat.le_trans (by simp : w.heap.size ≤ (w.alloc (.cells #[.slice none 0 0] 84)).heap.size) HB2.out.size) (fun k hk => by rcases hk with q | q | ⟨x, hx, _⟩; exact Nat.le_of_eq q.symm; cases q; cases hx)), fun k hk => by rcases G3.new k hk with q | q; (rcases q with q | q | ⟨x, hx, _⟩; exact Nat.le_of_eq q.symm; cases q; cases hx); exact Nat.le_trans (Nat.le_trans (by simp : w.heap.size ≤ (w.alloc (.cells #[.slice none 0 0] 84)).heap.size) HB2.out.size) q⟩); clear H3 G3))
  go_ret
  exact ⟨_, rfl, R.out⟩
theorem Has.keep {w0 w w' : World} {p : Nat} {M : List Nd} (h : Has w0 p M w) (hb : Below w.heap.size w w') : Has w0 p M w' := by
  obtain ⟨h, h1, h2, H, hb0, hf⟩ := h
  exact ⟨h, h1, h2, H.keep hb, hb0.trans (hb.mono hb0.size), hf⟩
theorem Has.below {w0 w : World} {p : Nat} {M : List Nd} (h : Has w0 p M w) : Below w0.heap.size w0 w := by
  obtain ⟨h, h1, h2, H, hb0, hf⟩ := h
  exact hb0
theorem new_small : Small newM 0 := by
  refine ⟨by decide, fun n hn => ?_⟩
  obtain rfl : n = addedNd (dirNd 493 0) 1 [] := by simpa [newM] using hn
  exact ⟨by decide, by decide, by decide⟩
end Go.Proofs.YtfhagjnlliafiaaGreatDoor.V
namespace Go.Proofs.YtfhagjnlliafiaaGreatDoor.V
open Go.RowKit
def numOf (n : Nd) : Int × Int := (n.dev, n.ino)
def DevInv (M : List Nd) : Prop := ∀ (i : Nat) (n : Nd), M[i]? = some n → 1 ≤ n.dev ∧ n.dev ≤ ((devL M 0).length : Int) ∧ n.ino = 1 + cntD n.dev (M.take i) ∧ ∀ p : Int, (devL M 0)[(n.dev - 1).toNat]? = some p → (n.ino = 1 ↔ p = (i : Int))
theorem devL_num : ∀ (a b : List Nd) (k : Nat), a.map numOf = b.map numOf → devL a k = devL b k
  | [], [], k, _ => rfl
  | [], y :: r, k, h => by simp at h
  | x :: r, [], k, h => by simp at h
  | x :: r, y :: t, k, h => by
    simp only [List.map_cons, List.cons.injEq] at h
    have e : x.ino = y.ino := congrArg Prod.snd h.1
    rw [devL, devL, e, devL_num r t (k + 1) h.2]
theorem cntD_num (d : Int) : ∀ (a b : List Nd), a.map numOf = b.map numOf → cntD d a = cntD d b
  | [], [], _ => rfl
  | [], y :: r, h => by simp at h
  | x :: r, [], h => by simp at h
  | x :: r, y :: t, h => by
    simp only [List.map_cons, List.cons.injEq] at h
    have e : x.dev = y.dev := congrArg Prod.fst h.1
    rw [cntD, cntD, e, cntD_num d r t h.2]
theorem devInv_num {a b : List Nd} (h : a.map numOf = b.map numOf) (H : DevInv a) : DevInv b := by
  intro i n hn
  have hm : (b.map numOf)[i]? = some (numOf n) := by rw [List.getElem?_map, hn]; rfl
  rw [← h, List.getElem?_map] at hm
  obtain ⟨m, hm1, hm2⟩ := Option.map_eq_some_iff.1 hm
  have e1 : m.dev = n.dev := congrArg Prod.fst hm2
  have e2 : m.ino = n.ino := congrArg Prod.snd hm2
  have := H i m hm1
  rw [devL_num a b 0 h, cntD_num m.dev (a.take i) (b.take i) (by rw [List.map_take, List.map_take, h]), e1, e2] at this
  exact this
theorem map_modify_same {M : List Nd} {i : Nat} {f : Nd → Nd} (hf : ∀ n, numOf (f n) = numOf n) : (M.modify i f).map numOf = M.map numOf := by
  apply List.ext_getElem?
  intro j
  rw [List.getElem?_map, List.getElem?_map, List.getElem?_modify]
  cases M[j]? with
  | none => rfl
  | some x =>
    show Option.map numOf (some (if i = j then f x else x)) = _
    split
    · show some (numOf (f x)) = _; rw [hf]; rfl
    · rfl
theorem cntD_pos {d : Int} {M : List Nd} {i : Nat} {n : Nd} (h : M[i]? = some n) (hd : n.dev = d) : 1 ≤ cntD d M := by
  induction M generalizing i with
  | nil => simp at h
  | cons x r ih =>
    have := (cntD_bd d r).1
    rw [cntD]
    cases i with
    | zero => simp at h; subst h; rw [if_pos hd]; omega
    | succ i => have := ih (i := i) (by simpa using h); split <;> omega
theorem cntD_zero {d : Int} {M : List Nd} (h : ∀ n ∈ M, n.dev ≠ d) : cntD d M = 0 := by
  induction M with
  | nil => rfl
  | cons x r ih =>
    rw [cntD, if_neg (h x (List.mem_cons_self ..)), ih (fun n hn => h n (List.mem_cons_of_mem _ hn))]
    rfl
theorem devInv_new : DevInv newM := by
  intro i n hn
  match i, hn with
  | 0, hn =>
    obtain rfl : n = addedNd (dirNd 493 0) 1 [] := by simpa [newM] using hn.symm
    refine ⟨by decide, by decide, by decide, fun p hp => ?_⟩
    have e : (devL newM 0)[(((addedNd (dirNd 493 0) 1 []).dev - 1)).toNat]? = some 0 := by decide
    rw [e] at hp
    obtain rfl := Option.some.inj hp
    exact ⟨fun _ => rfl, fun _ => by decide⟩
  | i + 1, hn => simp [newM] at hn
theorem devInv_add {M : List Nd} {n : Nd} {d : Int} (H : DevInv M) (hd : (∃ (i : Nat) (x : Nd), M[i]? = some x ∧ x.dev = d) ∨ d = ((devL M 0).length : Int) + 1) : DevInv (M ++ [addedNd n d M]) := by
  have hdev : ∀ x ∈ M, 1 ≤ x.dev ∧ x.dev ≤ ((devL M 0).length : Int) := fun x hx => by
    obtain ⟨i, hi⟩ := List.mem_iff_getElem?.1 hx
    have := H i x hi
    exact ⟨this.1, this.2.1⟩
  have hlast : (M ++ [addedNd n d M]).take M.length = M := by rw [List.take_left]
  have hfst : ∀ p ∈ devL M 0, p < (M.length : Int) := by
    have : ∀ (a : List Nd) (k : Nat), ∀ p ∈ devL a k, p < ((k + a.length : Nat) : Int) := by
      intro a
      induction a with
      | nil => intro k p hp; cases hp
      | cons x r ih =>
        intro k p hp
        rw [devL] at hp
        rcases List.mem_append.1 hp with q | q
        · split at q
          · obtain rfl : p = (k : Int) := by simpa using q
            rw [List.length_cons]; omega
          · cases q
        · have := ih (k + 1) p q
          rw [List.length_cons]; omega
    intro p hp
    have := this M 0 p hp
    omega
  rcases hd with ⟨i0, x0, hx0, hxd⟩ | hd
  · have hpos := cntD_pos hx0 hxd
    have hino : (addedNd n d M).ino ≠ 1 := by show 1 + cntD d M ≠ 1; omega
    have hD : devL (M ++ [addedNd n d M]) 0 = devL M 0 := by rw [devL_append, devL, if_neg hino]; simp [devL]
    intro i m hm
    rw [hD]
    rcases Nat.lt_or_ge i M.length with q | q
    · rw [List.getElem?_append_left q] at hm
      have := H i m hm
      rw [List.take_append_of_le_length (by omega)]
      exact this
    · have hi : i = M.length := by
        have := (List.getElem?_eq_some_iff.1 hm).1
        simp at this
        omega
      subst hi
      rw [app_last] at hm
      obtain rfl := Option.some.inj hm
      rw [hlast]
      refine ⟨by show 1 ≤ d; rw [← hxd]; exact (hdev x0 (List.mem_of_getElem? hx0)).1, by show d ≤ _; rw [← hxd]; exact (hdev x0 (List.mem_of_getElem? hx0)).2, rfl, fun p hp => ⟨fun e => absurd e hino, fun e => ?_⟩⟩
      have := hfst p (List.mem_of_getElem? hp)
      omega
  · have hz : cntD d M = 0 := cntD_zero fun x hx => by have := hdev x hx; omega
    have hino : (addedNd n d M).ino = 1 := by show 1 + cntD d M = 1; omega
    have hD : devL (M ++ [addedNd n d M]) 0 = devL M 0 ++ [(M.length : Int)] := by rw [devL_append, devL, if_pos hino]; simp [devL]
    intro i m hm
    rw [hD, List.length_append]
    rcases Nat.lt_or_ge i M.length with q | q
    · rw [List.getElem?_append_left q] at hm
      have hH := H i m hm
      rw [List.take_append_of_le_length (by omega)]
      refine ⟨hH.1, by simp; omega, hH.2.2.1, fun p hp => hH.2.2.2 p ?_⟩
      rw [List.getElem?_append_left (by omega)] at hp
      exact hp
    · have hi : i = M.length := by
        have := (List.getElem?_eq_some_iff.1 hm).1
        simp at this
        omega
      subst hi
      rw [app_last] at hm
      obtain rfl := Option.some.inj hm
      rw [hlast]
      refine ⟨by show 1 ≤ d; omega, by show d ≤ _; simp; omega, rfl, fun p hp => ⟨fun _ => ?_, fun _ => hino⟩⟩
      rw [show ((addedNd n d M).dev - 1).toNat = (devL M 0).length from by show (d - 1).toNat = _; omega, app_last] at hp
      exact (Option.some.inj hp).symm
theorem setNd_num (c : Chg) (n : Nd) : numOf (setNd c n) = numOf n := by
  unfold setNd
  repeat' split
  all_goals rfl
theorem devInv_built {M : List Nd} {i : Nat} {s : ByteArray} {n : Nd} {d : Int} (H : DevInv M) (hd : ∃ (i : Nat) (x : Nd), M[i]? = some x ∧ x.dev = d) : DevInv (builtM M i s n d) := by
  unfold builtM
  refine devInv_num (a := M ++ [addedNd n d M]) ?_ (devInv_add H (.inl hd))
  rw [map_modify_same (f := moreLinks) (fun _ => rfl), map_modify_same (f := addEnt _ _) (fun _ => rfl)]
theorem devInv_do {M : List Nd} {c : Chg} (H : DevInv M) : DevInv (doM M c) := by
  unfold doM
  split
  · rename_i hw
    rcases wrong_cases hw with ⟨x, hx, hk, _⟩ | ⟨k2, x, y, hx, hy, _⟩ | ⟨k7, _, y, hy⟩ | ⟨hk, y, hy⟩
    · obtain ⟨i, hi, hxi⟩ := atM_some hx
      have hd : (atM M c.at_).elim 0 (·.dev) = x.dev := by rw [hx]; rfl
      unfold carryM
      rw [hd]
      rcases hk with k0 | ⟨k1, _⟩ | k3
      · rw [if_pos k0]; exact devInv_built H ⟨i, x, hxi, rfl⟩
      · rw [if_neg (by omega), if_pos k1]; exact devInv_built H ⟨i, x, hxi, rfl⟩
      · rw [if_neg (by omega), if_neg (by omega), if_neg (by omega), if_pos k3]; exact devInv_built H ⟨i, x, hxi, rfl⟩
    · unfold carryM
      rw [if_neg (by omega), if_neg (by omega), if_pos k2]
      exact devInv_num (a := M) (by rw [map_modify_same (f := moreLinks) (fun _ => rfl), map_modify_same (f := addEnt _ _) (fun _ => rfl)]) H
    · unfold carryM
      rw [if_neg (by omega), if_neg (by omega), if_neg (by omega), if_neg (by omega), if_pos k7]
      unfold coveredM
      exact devInv_num (a := M ++ [addedNd _ _ M]) (by rw [map_modify_same (f := setOver _) (fun _ => rfl)]) (devInv_add H (.inr rfl))
    · unfold carryM
      rw [if_neg (by omega), if_neg (by omega), if_neg (by omega), if_neg (by omega), if_neg (by omega)]
      exact devInv_num (a := M) (by rw [map_modify_same (setNd_num c)]) H
  · exact H
end Go.Proofs.YtfhagjnlliafiaaGreatDoor.V
namespace Go.Proofs.YtfhagjnlliafiaaGreatDoor.V
open Go.RowKit
def RefRel (s : ByteArray) (w : World) (v : Value) (wr : World) : Prop := ∃ k : Nat, k ≤ s.size ∧ v = .int .i64 (k : Int) ∧ wr = w ∧ Lib.NoAny s.data.toList hardL k
theorem goodB_hit {s : ByteArray} (h : 0 ≤ Lib.indexAny s.data.toList hardL) : goodB s = false := by
  unfold goodB
  rw [decide_eq_true h]
  simp
theorem goodB_none {s : ByteArray} (h : Lib.indexAny s.data.toList hardL = -1) : goodB s = (decide (0 < s.size) && (decide (s.size < 256) && (!(s.toList == [46]) && !(s.toList == [46, 46])))) := by
  unfold goodB
  rw [h]
  have e1 : decide (1 ≤ s.size) = decide (0 < s.size) := by congr 1
  have e2 : decide (s.size ≤ 255) = decide (s.size < 256) := by congr 1; exact propext ⟨fun _ => by omega, fun _ => by omega⟩
  rw [e1, e2]
  simp
theorem refGood_any (s : ByteArray) (w : World) (hs : s.size ≤ 1000000) :
    Calls Tryz.prog 69 #[.string s] w fun e w' => e = .returned (.bool (goodB s)) ∧ w = w' := by
  go_enter Tryz.func69, Tryz.ntmps69
  go_wp2
  go_loopw [3] (RefRel s w) (fun v _ => s.size - (intOf v).toNat)
  case atStart => exact ⟨0, Nat.zero_le _, rfl, rfl, Lib.NoAny.zero _ _⟩
  case round =>
    obtain ⟨k, hk, rfl, rfl, hn⟩ := hrel
    have HN := Lib.hid hn
    clear hn
    by_cases hlt : k < s.size
    · have hat : s.data.toList[k]? = some (s[k]'hlt) := Lib.data_getElem? s k hlt
      have HAT := Lib.hid hat
      clear hat
      by_cases h0 : (s[k]'hlt) = 0
      · have d0 : (((s[k]'hlt).toNat : Int) == 0) = true := by rw [h0]; rfl
        have HR := Lib.hid (goodB_hit (s := s) (by rw [Lib.indexAny_hit HN.out HAT.out (hard_of.2 (.inl h0))]; omega))
        clear h0
        go_wp2
        go_ret
        exact ⟨ret_bool HR.out.symm, rfl⟩
      · have hne0 : ¬ ((s[k]'hlt).toNat : Int) = 0 := fun e => h0 (UInt8.toNat_inj.1 (by simpa using e))
        have d0 : (((s[k]'hlt).toNat : Int) == 0) = false := by simpa using hne0
        by_cases h1 : (s[k]'hlt) = 47
        · have d1 : (((s[k]'hlt).toNat : Int) == 47) = true := by rw [h1]; rfl
          have HR := Lib.hid (goodB_hit (s := s) (by rw [Lib.indexAny_hit HN.out HAT.out (hard_of.2 (.inr h1))]; omega))
          clear h0 h1 hne0
          go_wp2
          go_ret
          exact ⟨ret_bool HR.out.symm, rfl⟩
        · have e47 : (47 : UInt8).toNat = 47 := rfl
          have hne1 : ¬ ((s[k]'hlt).toNat : Int) = 47 := by
            intro e
            apply h1
            apply UInt8.toNat_inj.1
            rw [e47]
            omega
          have d1 : (((s[k]'hlt).toNat : Int) == 47) = false := by simpa using hne1
          have hc : hardL.contains (s[k]'hlt) = false := by
            rw [← Bool.not_eq_true, hard_of]
            exact fun e => e.elim h0 h1
          have R := Lib.hid (HN.out.succ HAT.out hc)
          clear h0 h1 hne0 hne1 hc
          go_wp2
          go_roundw
          case rel => exact ⟨k + 1, by omega, by simp, rfl, R.out⟩
          case measure => simp [intOf]; omega
    · have hno := Lib.hid (show Lib.indexAny s.data.toList hardL = -1 from Lib.indexAny_none (by rw [← Lib.size_eq, show s.size = k by omega]; exact HN.out))
      have HG := Lib.hid (goodB_none hno.out)
      by_cases z0 : 0 < s.size
      · by_cases z1 : s.size < 256
        · cases e1 : s.toList == [46] with
          | true =>
            have n1 : (s.toList != [46]) = false := by simp [bne, e1]
            have HE := Lib.hid e1
            clear e1
            go_wp2
            all_goals go_ret
            all_goals exact ⟨ret_bool (by rw [HG.out, HE.out]; simp), rfl⟩
          | false =>
            have n1 : ¬ s.toList = [46] := by simpa using e1
            have HE := Lib.hid e1
            clear e1
            cases e2 : s.toList == [46, 46] with
            | true =>
              have n2 : (s.toList != [46, 46]) = false := by simp [bne, e2]
              have HE2 := Lib.hid e2
              clear e2
              go_wp2
              all_goals go_ret
              all_goals exact ⟨ret_bool (by rw [HG.out, HE.out, HE2.out]; simp), rfl⟩
            | false =>
              have n2 : ¬ s.toList = [46, 46] := by simpa using e2
              have HE2 := Lib.hid e2
              clear e2
              go_wp2
              all_goals go_ret
              all_goals exact ⟨ret_bool (by rw [HG.out, HE.out, HE2.out, decide_eq_true z0, decide_eq_true z1]; rfl), rfl⟩
        · go_wp2
          all_goals go_ret
          all_goals exact ⟨ret_bool (by rw [HG.out, decide_eq_false z1]; simp), rfl⟩
      · go_wp2
        all_goals go_ret
        all_goals exact ⟨ret_bool (by rw [HG.out, decide_eq_false z0]; simp), rfl⟩
end Go.Proofs.YtfhagjnlliafiaaGreatDoor.V
