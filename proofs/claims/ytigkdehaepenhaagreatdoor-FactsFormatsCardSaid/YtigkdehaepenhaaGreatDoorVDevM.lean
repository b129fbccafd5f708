/-
  What New makes; that the laws' own first question is answered. Conditions: none.
  Devices in the model: each device's nodes are numbered on, and its first is in the list of firsts. Conditions: none.
-/
import Derived.Test.YtigkdehaepenhaaGreatDoorVDo
set_option linter.unusedVariables false
namespace Go.Proofs.YtigkdehaepenhaaGreatDoor.V
open Go.RowKit

def newM : List Nd := [addedNd (dirNd 493 0) 1 []]
/-- A file system that was made behind w0, of the nodes M. -/
def Has (w0 : World) (p : Nat) (M : List Nd) (w : World) : Prop := ∃ h : Fsh, h.p = p ∧ h.M = M ∧ Fs h w ∧ Below w0.heap.size w0 w ∧ ∀ k, h.foot k → w0.heap.size ≤ k

theorem fs_new (w : World) : Fs ⟨w.heap.size, .slice none 0 0, []⟩ (w.alloc (.cells #[.slice none 0 0] 88)) :=
  ⟨heap_alloc_new _ _, World.ownsRow_nil _ _ _ _, fun x hx => (by cases hx), fun i j _ x y hx _ => (by simp at hx)⟩

set_option maxHeartbeats 1000000 in
theorem new_any (w : World) :
    Calls Tryz.prog 17 #[] w fun e w' => ∃ p, e = .returned (.pointer (some ⟨p, 0, none⟩)) ∧ Has w p newM w' := by
  have HA := Lib.hid (fun (w2 : World) (hb : Below (w.alloc (.cells #[.slice none 0 0] 88)).heap.size (w.alloc (.cells #[.slice none 0 0] 88)) w2) => add_any ⟨w.heap.size, .slice none 0 0, []⟩ (dirNd 493 0) 1 w2 ((fs_new w).keep hb) rfl (by simp))
  go_enter Tryz.func17, Tryz.ntmps17
  go_wp2_with (first
    | (go_at_call 37; refine (directory_any 493 0 _).mono ?_; rintro e w2 ⟨rfl, hb2⟩; have HB2 := Lib.hid hb2; clear hb2)
    | (go_at_call 36; refine (HA.out _ HB2.out).mono ?_; rintro e w3 ⟨rfl, v', H3, G3⟩; have R := Lib.hid (show Has w w.heap.size newM w3 from ⟨_, rfl, rfl, H3, (below_two ((Below.refl _ _).alloc (Nat.le_refl _) _) HB2.out).trans (G3.below (Nat.le_trans (by simp : w.heap.size ≤ (w.alloc (.cells #[.slice none 0 0] 88)).heap.size) HB2.out.size) (fun k hk => by rcases hk with q | q | ⟨x, hx, _⟩; exact Nat.le_of_eq q.symm; cases q; cases hx)), fun k hk => by rcases G3.new k hk with q | q; (rcases q with q | q | ⟨x, hx, _⟩; exact Nat.le_of_eq q.symm; cases q; cases hx); exact Nat.le_trans (Nat.le_trans (by simp : w.heap.size ≤ (w.alloc (.cells #[.slice none 0 0] 88)).heap.size) HB2.out.size) q⟩); clear H3 G3))
  go_ret
  exact ⟨_, rfl, R.out⟩

/-- One change of a file system made behind w0. -/
theorem has_do {w0 w : World} {p : Nat} {M : List Nd} {c : Chg} {k : Nat} (h : Has w0 p M w) (hS : Small M k) (hk : k ≤ 900000) (hn : 0 < M.length) (hc : -9223372036854775808 ≤ c.n ∧ c.n ≤ 9223372036854775807) :
    Calls Tryz.prog 19 #[.pointer (some ⟨p, 0, none⟩), chgV c] w fun e w' => e = .returned (.tuple #[.int .i64 (doR M c), .int .i64 (wrongM M c)]) ∧ Has w0 p (doM M c) w' := by
  obtain ⟨h, rfl, rfl, H, hb, hf⟩ := h
  have hml : h.M.length = h.X.length := List.length_map ..
  refine (do_any h c k w H hS hk (by omega) hc).mono ?_
  rintro e w' ⟨he, h', hp', hm', H', G'⟩
  exact ⟨he, h', hp', hm', H', hb.trans (G'.below hb.size hf), fun j hj => by rcases G'.new j hj with q | q; exact hf j q; exact Nat.le_trans hb.size q⟩
theorem Has.keep {w0 w w' : World} {p : Nat} {M : List Nd} (h : Has w0 p M w) (hb : Below w.heap.size w w') : Has w0 p M w' := by
  obtain ⟨h, h1, h2, H, hb0, hf⟩ := h
  exact ⟨h, h1, h2, H.keep hb, hb0.trans (hb.mono hb0.size), hf⟩
theorem Has.below {w0 w : World} {p : Nat} {M : List Nd} (h : Has w0 p M w) : Below w0.heap.size w0 w := by
  obtain ⟨h, h1, h2, H, hb0, hf⟩ := h
  exact hb0

def chgA : Chg := ⟨0, 0, 0, ⟨#[97]⟩, ⟨#[]⟩, 0, 0, 0⟩
theorem new_small : Small newM 0 := by
  refine ⟨by decide, fun n hn => ?_⟩
  obtain rfl : n = addedNd (dirNd 493 0) 1 [] := by simpa [newM] using hn
  exact ⟨by decide, by decide, by decide⟩
theorem awake_do : doR newM chgA = 1 ∧ wrongM newM chgA = 0 ∧ (doM newM chgA).length = 2 := by decide +kernel

end Go.Proofs.YtigkdehaepenhaaGreatDoor.V

namespace Go.Proofs.YtigkdehaepenhaaGreatDoor.V
open Go.RowKit

/-- What the numbering looks at. -/
def numOf (n : Nd) : Int × Int := (n.dev, n.ino)
def DevInv (M : List Nd) : Prop := ∀ (i : Nat) (n : Nd), M[i]? = some n → 1 ≤ n.dev ∧ n.dev ≤ ((devL M 0).length : Int) ∧ n.ino = 1 + cntD n.dev (M.take i) ∧ ∀ p : Int, (devL M 0)[(n.dev - 1).toNat]? = some p → (n.ino = 1 ↔ p = (i : Int))

theorem devL_num : ∀ (a b : List Nd) (k : Nat), a.map numOf = b.map numOf → devL a k = devL b k
  | [], [], k, _ => rfl
  | [], y :: r, k, h => by simp at h
  | x :: r, [], k, h => by simp at h
  | x :: r, y :: t, k, h => by
    simp only [List.map_cons, List.cons.injEq] at h
    have e : x.ino = y.ino := congrArg Prod.snd h.1
    rw [devL, devL, e, devL_num r t (k + 1) h.2]
theorem cntD_num (d : Int) : ∀ (a b : List Nd), a.map numOf = b.map numOf → cntD d a = cntD d b
  | [], [], _ => rfl
  | [], y :: r, h => by simp at h
  | x :: r, [], h => by simp at h
  | x :: r, y :: t, h => by
    simp only [List.map_cons, List.cons.injEq] at h
    have e : x.dev = y.dev := congrArg Prod.fst h.1
    rw [cntD, cntD, e, cntD_num d r t h.2]
theorem devInv_num {a b : List Nd} (h : a.map numOf = b.map numOf) (H : DevInv a) : DevInv b := by
  intro i n hn
  have hm : (b.map numOf)[i]? = some (numOf n) := by rw [List.getElem?_map, hn]; rfl
  rw [← h, List.getElem?_map] at hm
  obtain ⟨m, hm1, hm2⟩ := Option.map_eq_some_iff.1 hm
  have e1 : m.dev = n.dev := congrArg Prod.fst hm2
  have e2 : m.ino = n.ino := congrArg Prod.snd hm2
  have := H i m hm1
  rw [devL_num a b 0 h, cntD_num m.dev (a.take i) (b.take i) (by rw [List.map_take, List.map_take, h]), e1, e2] at this
  exact this
theorem map_modify_same {M : List Nd} {i : Nat} {f : Nd → Nd} (hf : ∀ n, numOf (f n) = numOf n) : (M.modify i f).map numOf = M.map numOf := by
  apply List.ext_getElem?
  intro j
  rw [List.getElem?_map, List.getElem?_map, List.getElem?_modify]
  cases M[j]? with
  | none => rfl
  | some x =>
    show Option.map numOf (some (if i = j then f x else x)) = _
    split
    · show some (numOf (f x)) = _; rw [hf]; rfl
    · rfl

theorem cntD_pos {d : Int} {M : List Nd} {i : Nat} {n : Nd} (h : M[i]? = some n) (hd : n.dev = d) : 1 ≤ cntD d M := by
  induction M generalizing i with
  | nil => simp at h
  | cons x r ih =>
    have := (cntD_bd d r).1
    rw [cntD]
    cases i with
    | zero => simp at h; subst h; rw [if_pos hd]; omega
    | succ i => have := ih (i := i) (by simpa using h); split <;> omega
theorem cntD_zero {d : Int} {M : List Nd} (h : ∀ n ∈ M, n.dev ≠ d) : cntD d M = 0 := by
  induction M with
  | nil => rfl
  | cons x r ih =>
    rw [cntD, if_neg (h x (List.mem_cons_self ..)), ih (fun n hn => h n (List.mem_cons_of_mem _ hn))]
    rfl
theorem devInv_new : DevInv newM := by
  intro i n hn
  match i, hn with
  | 0, hn =>
    obtain rfl : n = addedNd (dirNd 493 0) 1 [] := by simpa [newM] using hn.symm
    refine ⟨by decide, by decide, by decide, fun p hp => ?_⟩
    have e : (devL newM 0)[(((addedNd (dirNd 493 0) 1 []).dev - 1)).toNat]? = some 0 := by decide
    rw [e] at hp
    obtain rfl := Option.some.inj hp
    exact ⟨fun _ => rfl, fun _ => by decide⟩
  | i + 1, hn => simp [newM] at hn
/-- A node more, on a device that there is, or on the next one. -/
theorem devInv_add {M : List Nd} {n : Nd} {d : Int} (H : DevInv M) (hd : (∃ (i : Nat) (x : Nd), M[i]? = some x ∧ x.dev = d) ∨ d = ((devL M 0).length : Int) + 1) : DevInv (M ++ [addedNd n d M]) := by
  have hdev : ∀ x ∈ M, 1 ≤ x.dev ∧ x.dev ≤ ((devL M 0).length : Int) := fun x hx => by
    obtain ⟨i, hi⟩ := List.mem_iff_getElem?.1 hx
    have := H i x hi
    exact ⟨this.1, this.2.1⟩
  have hlast : (M ++ [addedNd n d M]).take M.length = M := by rw [List.take_left]
  have hfst : ∀ p ∈ devL M 0, p < (M.length : Int) := by
    have : ∀ (a : List Nd) (k : Nat), ∀ p ∈ devL a k, p < ((k + a.length : Nat) : Int) := by
      intro a
      induction a with
      | nil => intro k p hp; cases hp
      | cons x r ih =>
        intro k p hp
        rw [devL] at hp
        rcases List.mem_append.1 hp with q | q
        · split at q
          · obtain rfl : p = (k : Int) := by simpa using q
            rw [List.length_cons]; omega
          · cases q
        · have := ih (k + 1) p q
          rw [List.length_cons]; omega
    intro p hp
    have := this M 0 p hp
    omega
  rcases hd with ⟨i0, x0, hx0, hxd⟩ | hd
  · have hpos := cntD_pos hx0 hxd
    have hino : (addedNd n d M).ino ≠ 1 := by show 1 + cntD d M ≠ 1; omega
    have hD : devL (M ++ [addedNd n d M]) 0 = devL M 0 := by rw [devL_append, devL, if_neg hino]; simp [devL]
    intro i m hm
    rw [hD]
    rcases Nat.lt_or_ge i M.length with q | q
    · rw [List.getElem?_append_left q] at hm
      have := H i m hm
      rw [List.take_append_of_le_length (by omega)]
      exact this
    · have hi : i = M.length := by
        have := (List.getElem?_eq_some_iff.1 hm).1
        simp at this
        omega
      subst hi
      rw [app_last] at hm
      obtain rfl := Option.some.inj hm
      rw [hlast]
      refine ⟨by show 1 ≤ d; rw [← hxd]; exact (hdev x0 (List.mem_of_getElem? hx0)).1, by show d ≤ _; rw [← hxd]; exact (hdev x0 (List.mem_of_getElem? hx0)).2, rfl, fun p hp => ⟨fun e => absurd e hino, fun e => ?_⟩⟩
      have := hfst p (List.mem_of_getElem? hp)
      omega
  · have hz : cntD d M = 0 := cntD_zero fun x hx => by have := hdev x hx; omega
    have hino : (addedNd n d M).ino = 1 := by show 1 + cntD d M = 1; omega
    have hD : devL (M ++ [addedNd n d M]) 0 = devL M 0 ++ [(M.length : Int)] := by rw [devL_append, devL, if_pos hino]; simp [devL]
    intro i m hm
    rw [hD, List.length_append]
    rcases Nat.lt_or_ge i M.length with q | q
    · rw [List.getElem?_append_left q] at hm
      have hH := H i m hm
      rw [List.take_append_of_le_length (by omega)]
      refine ⟨hH.1, by simp; omega, hH.2.2.1, fun p hp => hH.2.2.2 p ?_⟩
      rw [List.getElem?_append_left (by omega)] at hp
      exact hp
    · have hi : i = M.length := by
        have := (List.getElem?_eq_some_iff.1 hm).1
        simp at this
        omega
      subst hi
      rw [app_last] at hm
      obtain rfl := Option.some.inj hm
      rw [hlast]
      refine ⟨by show 1 ≤ d; omega, by show d ≤ _; simp; omega, rfl, fun p hp => ⟨fun _ => ?_, fun _ => hino⟩⟩
      rw [show ((addedNd n d M).dev - 1).toNat = (devL M 0).length from by show (d - 1).toNat = _; omega, app_last] at hp
      exact (Option.some.inj hp).symm
theorem setNd_num (c : Chg) (n : Nd) : numOf (setNd c n) = numOf n := by
  unfold setNd
  repeat' split
  all_goals rfl
theorem devInv_built {M : List Nd} {i : Nat} {s : ByteArray} {n : Nd} {d : Int} (H : DevInv M) (hd : ∃ (i : Nat) (x : Nd), M[i]? = some x ∧ x.dev = d) : DevInv (builtM M i s n d) := by
  unfold builtM
  refine devInv_num (a := M ++ [addedNd n d M]) ?_ (devInv_add H (.inl hd))
  rw [map_modify_same (f := moreLinks) (fun _ => rfl), map_modify_same (f := addEnt _ _) (fun _ => rfl)]
theorem devInv_do {M : List Nd} {c : Chg} (H : DevInv M) : DevInv (doM M c) := by
  unfold doM
  split
  · rename_i hw
    rcases wrong_cases hw with ⟨x, hx, hk, _⟩ | ⟨k2, x, y, hx, hy, _⟩ | ⟨k7, _, y, hy⟩ | ⟨hk, y, hy⟩
    · obtain ⟨i, hi, hxi⟩ := atM_some hx
      have hd : (atM M c.at_).elim 0 (·.dev) = x.dev := by rw [hx]; rfl
      unfold carryM
      rw [hd]
      rcases hk with k0 | ⟨k1, _⟩ | k3
      · rw [if_pos k0]; exact devInv_built H ⟨i, x, hxi, rfl⟩
      · rw [if_neg (by omega), if_pos k1]; exact devInv_built H ⟨i, x, hxi, rfl⟩
      · rw [if_neg (by omega), if_neg (by omega), if_neg (by omega), if_pos k3]; exact devInv_built H ⟨i, x, hxi, rfl⟩
    · unfold carryM
      rw [if_neg (by omega), if_neg (by omega), if_pos k2]
      exact devInv_num (a := M) (by rw [map_modify_same (f := moreLinks) (fun _ => rfl), map_modify_same (f := addEnt _ _) (fun _ => rfl)]) H
    · unfold carryM
      rw [if_neg (by omega), if_neg (by omega), if_neg (by omega), if_neg (by omega), if_pos k7]
      unfold coveredM
      exact devInv_num (a := M ++ [addedNd _ _ M]) (by rw [map_modify_same (f := setOver _) (fun _ => rfl)]) (devInv_add H (.inr rfl))
    · unfold carryM
      rw [if_neg (by omega), if_neg (by omega), if_neg (by omega), if_neg (by omega), if_neg (by omega)]
      exact devInv_num (a := M) (by rw [map_modify_same (setNd_num c)]) H
  · exact H
end Go.Proofs.YtigkdehaepenhaaGreatDoor.V
