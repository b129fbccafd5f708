/-
  A node's links are what is counted over the entries: of the nodes that changes have made, and of the reference's list of entries. Conditions: none.
  What the reference's Over, Up, Link, List, Node and Same return. Conditions: at most 1000000 nodes and entries; the reference's slices and the list of entries go with the nodes.
-/
import Derived.Test.YtigkdehaepenhaaGreatDoorVTwin
import Derived.Test.YtigkdehaepenhaaGreatDoorFVSame
set_option linter.unusedSimpArgs false
set_option linter.unusedVariables false
namespace Go.Proofs.YtigkdehaepenhaaGreatDoor.V
open Go.RowKit

/-- Is the node of that number a directory? -/
def kdir (K : List Int) (id : Int) : Bool := K[id.toNat]? == some 2
def kindsM (M : List Nd) : List Int := M.map fun n => n.kind
def dirsIn (K : List Int) : List (ByteArray × Int) → Int
  | [] => 0
  | e :: r => (if kdir K e.2 = true then 1 else 0) + dirsIn K r
def cntId (id : Int) : List (ByteArray × Int) → Int
  | [] => 0
  | e :: r => (if e.2 = id then 1 else 0) + cntId id r
def refs (id : Int) : List Nd → Int
  | [] => 0
  | n :: r => cntId id n.ents + refs id r
/-- Each entry is of a node that there is; links are counted. -/
structure LInv (M : List Nd) : Prop where
  id : ∀ n ∈ M, ∀ e ∈ n.ents, 0 ≤ e.2 ∧ e.2 < (M.length : Int)
  links : ∀ (i : Nat) (x : Nd), M[i]? = some x → x.links = if x.kind = 2 then 2 + dirsIn (kindsM M) x.ents else refs (i : Int) M

theorem dirsIn_snoc (K : List Int) (s : ByteArray) (j : Int) : ∀ l, dirsIn K (l ++ [(s, j)]) = dirsIn K l + if kdir K j = true then 1 else 0
  | [] => by simp [dirsIn]
  | e :: r => by rw [List.cons_append, dirsIn, dirsIn, dirsIn_snoc K s j r]; omega
theorem cntId_snoc (id : Int) (s : ByteArray) (j : Int) : ∀ l, cntId id (l ++ [(s, j)]) = cntId id l + if j = id then 1 else 0
  | [] => by simp [cntId]
  | e :: r => by rw [List.cons_append, cntId, cntId, cntId_snoc id s j r]; omega
theorem kdir_app {K : List Int} {k j : Int} (h0 : 0 ≤ j) (h1 : j < (K.length : Int)) : kdir (K ++ [k]) j = kdir K j := by
  unfold kdir
  rw [List.getElem?_append_left (by omega)]
theorem dirsIn_app {K : List Int} {k : Int} : ∀ l : List (ByteArray × Int), (∀ e ∈ l, 0 ≤ e.2 ∧ e.2 < (K.length : Int)) → dirsIn (K ++ [k]) l = dirsIn K l
  | [], _ => rfl
  | e :: r, h => by
    rw [dirsIn, dirsIn, dirsIn_app r (fun x hx => h x (List.mem_cons_of_mem _ hx)), kdir_app (h e List.mem_cons_self).1 (h e List.mem_cons_self).2]
theorem refs_append (id : Int) : ∀ a b, refs id (a ++ b) = refs id a + refs id b
  | [], b => by simp [refs]
  | x :: r, b => by rw [List.cons_append, refs, refs, refs_append id r b]; omega
theorem refs_ent (id : Int) (s : ByteArray) (j : Int) : ∀ (M : List Nd) (i : Nat), i < M.length → refs id (M.modify i (addEnt s j)) = refs id M + if j = id then 1 else 0
  | [], i, h => by simp at h
  | n :: r, 0, h => by
    rw [List.modify_zero_cons, refs, refs]
    show cntId id (n.ents ++ [(s, j)]) + refs id r = _
    rw [cntId_snoc]
    omega
  | n :: r, i + 1, h => by
    rw [List.modify_succ_cons, refs, refs, refs_ent id s j r i (by simpa using h)]
    omega
theorem refs_same (id : Int) {f : Nd → Nd} (hf : ∀ n, (f n).ents = n.ents) : ∀ (M : List Nd) (i : Nat), refs id (M.modify i f) = refs id M
  | [], i => by simp
  | n :: r, 0 => by rw [List.modify_zero_cons, refs, refs, hf]
  | n :: r, i + 1 => by rw [List.modify_succ_cons, refs, refs, refs_same id hf r i]
theorem cntId_none (id : Int) : ∀ l : List (ByteArray × Int), (∀ e ∈ l, e.2 ≠ id) → cntId id l = 0
  | [], _ => rfl
  | e :: r, h => by rw [cntId, if_neg (h e List.mem_cons_self), cntId_none id r (fun x hx => h x (List.mem_cons_of_mem _ hx))]; rfl
theorem refs_none (id : Int) : ∀ M : List Nd, (∀ n ∈ M, ∀ e ∈ n.ents, e.2 ≠ id) → refs id M = 0
  | [], _ => rfl
  | n :: r, h => by rw [refs, cntId_none id n.ents (h n List.mem_cons_self), refs_none id r (fun x hx => h x (List.mem_cons_of_mem _ hx))]; rfl
theorem kinds_modify {f : Nd → Nd} (hf : ∀ n, (f n).kind = n.kind) : ∀ (M : List Nd) (i : Nat), kindsM (M.modify i f) = kindsM M
  | [], i => by simp
  | n :: r, 0 => by rw [List.modify_zero_cons]; show (f n).kind :: kindsM r = n.kind :: kindsM r; rw [hf]
  | n :: r, i + 1 => by rw [List.modify_succ_cons]; show n.kind :: kindsM (r.modify i f) = n.kind :: kindsM r; rw [kinds_modify hf r i]
theorem kinds_app (M : List Nd) (x : Nd) : kindsM (M ++ [x]) = kindsM M ++ [x.kind] := by unfold kindsM; rw [List.map_append]; rfl
theorem kinds_len (M : List Nd) : (kindsM M).length = M.length := by unfold kindsM; rw [List.length_map]
theorem kdir_at {M : List Nd} {i : Nat} {x : Nd} (h : M[i]? = some x) : kdir (kindsM M) (i : Int) = decide (x.kind = 2) := by
  unfold kdir kindsM
  rw [Int.toNat_natCast, List.getElem?_map, h]
  show (some x.kind == some 2) = _
  by_cases e : x.kind = 2
  · rw [e]; rfl
  · rw [decide_eq_false e]; simpa using e

theorem LInv.app {M : List Nd} {x : Nd} (H : LInv M) (he : x.ents = []) (hl : x.links = if x.kind = 2 then 2 else 0) : LInv (M ++ [x]) := by
  refine ⟨fun n hn e hee => ?_, fun i y hy => ?_⟩
  · rcases List.mem_append.1 hn with q | q
    · have := H.id n q e hee
      rw [List.length_append]
      exact ⟨this.1, by have := this.2; simp; omega⟩
    · obtain rfl : n = x := by simpa using q
      rw [he] at hee
      cases hee
  · rw [kinds_app, refs_append]
    have hx : refs (i : Int) [x] = 0 := by rw [refs, refs, he]; rfl
    rw [hx]
    by_cases hi : i < M.length
    · rw [List.getElem?_append_left hi] at hy
      have hm := List.mem_of_getElem? hy
      rw [dirsIn_app y.ents (fun e h => by rw [kinds_len]; exact H.id y hm e h), H.links i y hy, Int.add_zero]
    · rw [List.getElem?_append_right (by omega)] at hy
      have h0 : i - M.length = 0 := by
        have := (List.getElem?_eq_some_iff.1 hy).1
        simp at this
        omega
      rw [h0] at hy
      obtain rfl : x = y := by simpa using hy
      rw [he, hl, refs_none (i : Int) M (fun n hn e hee => by have := (H.id n hn e hee).2; omega)]
      rfl
theorem mem_modify {M : List Nd} {i : Nat} {f : Nd → Nd} {n : Nd} (h : n ∈ M.modify i f) : n ∈ M ∨ ∃ x, M[i]? = some x ∧ n = f x := by
  obtain ⟨j, hj⟩ := List.mem_iff_getElem?.1 h
  rw [List.getElem?_modify] at hj
  cases hm : M[j]? with
  | none => rw [hm] at hj; cases hj
  | some x =>
    rw [hm] at hj
    have e : (if i = j then f x else x) = n := Option.some.inj hj
    split at e
    · rename_i q
      subst q
      exact .inr ⟨x, hm, e.symm⟩
    · exact .inl (e ▸ List.mem_of_getElem? hm)
theorem LInv.same {M : List Nd} {i : Nat} {f : Nd → Nd} (H : LInv M) (hf : ∀ n, (f n).links = n.links ∧ (f n).ents = n.ents ∧ (f n).kind = n.kind) : LInv (M.modify i f) := by
  refine ⟨fun n hn e he => ?_, fun k y hy => ?_⟩
  · rw [List.length_modify]
    rcases mem_modify hn with q | ⟨x, hx, rfl⟩
    · exact H.id n q e he
    · rw [(hf x).2.1] at he
      exact H.id x (List.mem_of_getElem? hx) e he
  · rw [kinds_modify (fun n => (hf n).2.2), refs_same _ (fun n => (hf n).2.1)]
    rw [List.getElem?_modify] at hy
    cases hm : M[k]? with
    | none => rw [hm] at hy; cases hy
    | some x =>
      rw [hm] at hy
      have e : (if i = k then f x else x) = y := Option.some.inj hy
      have := H.links k x hm
      rw [← e]
      split
      · rw [(hf x).1, (hf x).2.1, (hf x).2.2]; exact this
      · exact this
/-- An entry more in a directory: what counts it has a link more. -/
theorem LInv.enter {M : List Nd} {i j : Nat} {s : ByteArray} {d : Nd} (H : LInv M) (hd : M[i]? = some d) (hk : d.kind = 2) (hj : j < M.length) {t : Nat} (ht : t = if kdir (kindsM M) (j : Int) = true then i else j) : LInv ((M.modify i (addEnt s (j : Int))).modify t moreLinks) := by
  have hi := (List.getElem?_eq_some_iff.1 hd).1
  refine ⟨fun n hn e he => ?_, fun k y hy => ?_⟩
  · rw [List.length_modify, List.length_modify]
    have base : ∀ n ∈ M.modify i (addEnt s (j : Int)), ∀ e ∈ n.ents, 0 ≤ e.2 ∧ e.2 < (M.length : Int) := fun n hn e he => by
      rcases mem_modify hn with q | ⟨x, hx, rfl⟩
      · exact H.id n q e he
      · have he : e ∈ x.ents ++ [(s, (j : Int))] := he
        rcases List.mem_append.1 he with q | q
        · exact H.id x (List.mem_of_getElem? hx) e q
        · obtain rfl : e = (s, (j : Int)) := by simpa using q
          exact ⟨by omega, by omega⟩
    rcases mem_modify hn with q | ⟨x, hx, rfl⟩
    · exact base n q e he
    · exact base x (List.mem_of_getElem? hx) e he
  · rw [kinds_modify (f := moreLinks) (fun n => rfl), kinds_modify (f := addEnt s (j : Int)) (fun n => rfl), refs_same (f := moreLinks) _ (fun n => rfl), refs_ent _ _ _ _ _ hi]
    rw [List.getElem?_modify, List.getElem?_modify] at hy
    cases hm : M[k]? with
    | none => rw [hm] at hy; cases hy
    | some x =>
      rw [hm] at hy
      have e : (if t = k then moreLinks (if i = k then addEnt s (j : Int) x else x) else (if i = k then addEnt s (j : Int) x else x)) = y := Option.some.inj hy
      have h0 := H.links k x hm
      have e1 : y.links = x.links + if t = k then 1 else 0 := by
        rw [← e]
        split
        · split <;> rfl
        · split <;> exact (Int.add_zero _).symm
      have e2 : y.kind = x.kind := by rw [← e]; split <;> split <;> rfl
      have e3 : dirsIn (kindsM M) y.ents = dirsIn (kindsM M) x.ents + if i = k ∧ kdir (kindsM M) (j : Int) = true then 1 else 0 := by
        have : y.ents = if i = k then x.ents ++ [(s, (j : Int))] else x.ents := by rw [← e]; split <;> split <;> rfl
        rw [this]
        by_cases q : i = k
        · rw [if_pos q, dirsIn_snoc]
          by_cases q2 : kdir (kindsM M) (j : Int) = true
          · rw [if_pos q2, if_pos ⟨q, q2⟩]
          · rw [if_neg q2, if_neg (fun z => q2 z.2)]
        · rw [if_neg q, if_neg (fun z => q z.1), Int.add_zero]
      rw [e1, e2, e3, h0]
      have hjx : ∀ z, M[j]? = some z → kdir (kindsM M) (j : Int) = decide (z.kind = 2) := fun z hz => kdir_at hz
      by_cases hx2 : x.kind = 2
      · rw [if_pos hx2, if_pos hx2]
        have : (if t = k then (1 : Int) else 0) = if i = k ∧ kdir (kindsM M) (j : Int) = true then 1 else 0 := by
          by_cases q2 : kdir (kindsM M) (j : Int) = true
          · rw [if_pos q2] at ht
            subst ht
            by_cases q : t = k
            · rw [if_pos q, if_pos ⟨q, q2⟩]
            · rw [if_neg q, if_neg (fun z => q z.1)]
          · rw [if_neg q2] at ht
            subst ht
            have h1 : ¬ t = k := fun q => by
              subst q
              rw [hjx x hm, hx2] at q2
              exact q2 rfl
            rw [if_neg h1, if_neg (fun z => q2 z.2)]
        rw [this]
        omega
      · rw [if_neg hx2, if_neg hx2]
        have : (if t = k then (1 : Int) else 0) = if (j : Int) = (k : Int) then 1 else 0 := by
          by_cases q2 : kdir (kindsM M) (j : Int) = true
          · rw [if_pos q2] at ht
            subst ht
            have h1 : ¬ t = k := fun q => by
              subst q
              rw [hd] at hm
              exact hx2 (Option.some.inj hm ▸ hk)
            have h2 : ¬ (j : Int) = (k : Int) := fun q => by
              obtain rfl : j = k := by omega
              rw [hjx x hm] at q2
              exact hx2 (of_decide_eq_true q2)
            rw [if_neg h1, if_neg h2]
          · rw [if_neg q2] at ht
            subst ht
            by_cases q : t = k
            · rw [if_pos q, if_pos (by omega)]
            · rw [if_neg q, if_neg (by omega)]
        rw [this]

theorem wrong_at {M : List Nd} {c : Chg} (h : wrongM M c = 0) (k0 : 0 ≤ c.kind) (k3 : c.kind < 4) : ∃ x, atM M c.at_ = some x ∧ x.kind = 2 := by
  unfold wrongM refuseE at h
  split at h
  · cases h
  · rename_i hno
    unfold baseE at h
    rw [if_pos ⟨k0, by omega⟩] at h
    unfold entryE at h
    cases hx : atM M c.at_ with
    | none => rw [hx] at h; cases h
    | some x =>
      rw [hx] at h
      dsimp only at h
      split at h
      · rename_i q; exact ⟨x, rfl, q⟩
      · cases h
theorem setNd_kind (c : Chg) (n : Nd) : (setNd c n).kind = n.kind := by
  unfold setNd
  repeat' split
  all_goals rfl
theorem LInv.built {M : List Nd} {i : Nat} {s : ByteArray} {n x : Nd} {d : Int} (H : LInv M) (hx : M[i]? = some x) (hk : x.kind = 2) (he : n.ents = []) (hl : n.links = if n.kind = 2 then 2 else 0) : LInv (builtM M i s n d) := by
  unfold builtM
  have h1 : LInv (M ++ [addedNd n d M]) := H.app he hl
  have hi := (List.getElem?_eq_some_iff.1 hx).1
  refine h1.enter (i := i) (j := M.length) (d := x) (by rw [List.getElem?_append_left hi]; exact hx) hk (by simp) ?_
  have : kdir (kindsM (M ++ [addedNd n d M])) (M.length : Int) = decide ((addedNd n d M).kind = 2) := kdir_at (app_last _ _)
  rw [show (addedNd n d M).kind = n.kind from rfl] at this
  rw [this]
  by_cases q : n.kind = 2
  · rw [if_pos q, if_pos (decide_eq_true q)]
  · rw [if_neg q, if_neg (by simpa using q)]
theorem LInv.do_ {M : List Nd} {c : Chg} (H : LInv M) : LInv (doM M c) := by
  unfold doM
  split
  · rename_i hw
    unfold carryM
    have hat : ∀ (_ : 0 ≤ c.kind) (_ : c.kind < 4), ∃ x, M[c.at_.toNat]? = some x ∧ x.kind = 2 := fun k0 k3 => by
      obtain ⟨x, hx, hk⟩ := wrong_at hw k0 k3
      obtain ⟨i, hi, hxi⟩ := atM_some hx
      exact ⟨x, by rw [hi, Int.toNat_natCast]; exact hxi, hk⟩
    split
    · obtain ⟨x, hx, hk⟩ := hat (by omega) (by omega)
      exact H.built hx hk rfl rfl
    · split
      · obtain ⟨x, hx, hk⟩ := hat (by omega) (by omega)
        exact H.built hx hk rfl rfl
      · split
        · rename_i k2
          obtain ⟨x, hx, hk⟩ := hat (by omega) (by omega)
          rcases wrong_cases hw with ⟨_, _, q, _⟩ | ⟨_, x', y, _, hy, hyk⟩ | ⟨q, _⟩ | ⟨q, _⟩
          · omega
          · obtain ⟨j, hj, hyj⟩ := atM_some hy
            have hy' : (atM M c.to).elim 0 (·.kind) = y.kind := by rw [hy]; rfl
            rw [if_neg (by rw [hy']; exact hyk), hj, Int.toNat_natCast]
            refine H.enter hx hk (List.getElem?_eq_some_iff.1 hyj).1 ?_
            rw [kdir_at hyj, decide_eq_false hyk]
            rfl
          · omega
          · omega
        · split
          · obtain ⟨x, hx, hk⟩ := hat (by omega) (by omega)
            exact H.built hx hk rfl rfl
          · split
            · exact (H.app (x := addedNd (dirNd (c.a % 4096) ((atM M c.to).elim 0 (·.up))) (((devL M 0).length : Int) + 1) M) rfl rfl).same (fun n => ⟨rfl, rfl, rfl⟩)
            · exact H.same (fun n => ⟨(setNd_few c n).1, (setNd_few c n).2, setNd_kind c n⟩)
  · exact H
theorem linv_new : LInv newM := by
  refine ⟨fun n hn e he => ?_, fun i x hx => ?_⟩
  · obtain rfl : n = addedNd (dirNd 493 0) 1 [] := by simpa [newM] using hn
    cases he
  · have : i = 0 := by
      have := (List.getElem?_eq_some_iff.1 hx).1
      simp [newM] at this
      exact this
    subst this
    obtain rfl : addedNd (dirNd 493 0) 1 [] = x := by simpa [newM] using hx
    rfl
theorem runM_linv : ∀ (cs : List Chg) (M : List Nd), LInv M → LInv (runM cs M)
  | [], M, h => h
  | c :: r, M, h => runM_linv r (doM M c) h.do_

/-- What the reference counts over its entries. -/
def hitB (K : List Int) (d : Bool) (i : Int) (e : It) : Bool := if d = true then e.at_ == i && kdir K e.id else e.id == i
def lcnt (K : List Int) (d : Bool) (i : Int) : List It → Int
  | [] => 0
  | e :: r => (if hitB K d i e = true then 1 else 0) + lcnt K d i r
def entsL (L : List It) (i : Int) : List (ByteArray × Int) := (L.filter fun e => e.at_ == i).map fun e => (e.name, e.id)
theorem entsL_cons (e : It) (r : List It) (i : Int) : entsL (e :: r) i = if e.at_ = i then (e.name, e.id) :: entsL r i else entsL r i := by
  unfold entsL
  rw [List.filter_cons]
  by_cases h : e.at_ = i
  · rw [if_pos h, if_pos (by simpa using h)]; rfl
  · rw [if_neg h, if_neg (by simpa using h)]
theorem lcnt_dir (K : List Int) (i : Int) : ∀ L, lcnt K true i L = dirsIn K (entsL L i)
  | [] => rfl
  | e :: r => by
    rw [lcnt, lcnt_dir K i r, entsL_cons]
    unfold hitB
    rw [if_pos rfl]
    by_cases h : e.at_ = i
    · rw [if_pos h, dirsIn, h]
      simp
    · have : (e.at_ == i) = false := by simpa using h
      rw [if_neg h, this]
      simp
def sumN : Nat → (Nat → Int) → Int
  | 0, _ => 0
  | n + 1, g => g 0 + sumN n (fun k => g (k + 1))
theorem sumN_zero : ∀ n, sumN n (fun _ => 0) = 0
  | 0 => rfl
  | n + 1 => by rw [sumN, sumN_zero n]; rfl
theorem sumN_add : ∀ (n : Nat) (f g : Nat → Int), sumN n (fun k => f k + g k) = sumN n f + sumN n g
  | 0, f, g => rfl
  | n + 1, f, g => by rw [sumN, sumN, sumN, sumN_add n]; omega
theorem sumN_one (c : Int) : ∀ (n a : Nat), a < n → sumN n (fun k => if a = k then c else 0) = c
  | 0, a, h => by omega
  | n + 1, 0, h => by
    rw [sumN, if_pos rfl]
    have : (fun k => if 0 = k + 1 then c else 0) = fun _ : Nat => (0 : Int) := funext fun k => if_neg (by omega)
    rw [this, sumN_zero]
    omega
  | n + 1, a + 1, h => by
    rw [sumN, if_neg (by omega)]
    have : (fun k => if a + 1 = k + 1 then c else 0) = fun k : Nat => if a = k then c else (0 : Int) := funext fun k => by
      by_cases q : a = k
      · rw [if_pos q, if_pos (by omega)]
      · rw [if_neg q, if_neg (by omega)]
    rw [this, sumN_one c n a (by omega)]
    omega
theorem refs_sum (id : Int) : ∀ (M : List Nd) (g : Nat → Int), (∀ k x, M[k]? = some x → cntId id x.ents = g k) → refs id M = sumN M.length g
  | [], g, _ => rfl
  | n :: r, g, h => by
    rw [refs, h 0 n rfl, refs_sum id r (fun k => g (k + 1)) (fun k x hx => h (k + 1) x (by simpa using hx))]
    rfl
theorem lcnt_sum (K : List Int) (i : Int) (n : Nat) : ∀ L : List It, (∀ e ∈ L, 0 ≤ e.at_ ∧ e.at_ < (n : Int)) → lcnt K false i L = sumN n (fun k => cntId i (entsL L (k : Int)))
  | [], _ => by
    have : (fun k : Nat => cntId i (entsL [] (k : Int))) = fun _ => (0 : Int) := funext fun k => rfl
    rw [this, sumN_zero]
    rfl
  | e :: r, h => by
    have h0 := h e List.mem_cons_self
    have : (fun k : Nat => cntId i (entsL (e :: r) (k : Int))) = fun k : Nat => (if e.at_.toNat = k then (if e.id = i then 1 else 0) else 0) + cntId i (entsL r (k : Int)) := funext fun k => by
      rw [entsL_cons]
      by_cases q : e.at_ = (k : Int)
      · rw [if_pos q, if_pos (by omega), cntId]
      · rw [if_neg q, if_neg (by omega), Int.zero_add]
    rw [lcnt, lcnt_sum K i n r (fun x hx => h x (List.mem_cons_of_mem _ hx)), this, sumN_add, sumN_one _ n _ (by omega)]
    have hh : hitB K false i e = (e.id == i) := rfl
    rw [hh]
    by_cases q : e.id = i
    · rw [if_pos q, if_pos (by simpa using q)]
    · rw [if_neg q, if_neg (by simpa using q)]
/-- The links of a node are what the reference counts. -/
theorem links_counted {M : List Nd} {L : List It} {i : Nat} {x : Nd} (H : LInv M) (R : Rel M L) (hx : M[i]? = some x) : x.links = (if x.kind = 2 then 2 else 0) + lcnt (kindsM M) (decide (x.kind = 2)) (i : Int) L := by
  rw [H.links i x hx]
  by_cases h2 : x.kind = 2
  · rw [if_pos h2, if_pos h2, decide_eq_true h2, lcnt_dir, R.ents i x hx]
    rfl
  · rw [if_neg h2, if_neg h2, decide_eq_false h2, lcnt_sum _ _ M.length L (fun e he => R.at_ e he), Int.zero_add]
    exact refs_sum _ _ _ (fun k y hy => by rw [R.ents k y hy]; rfl)
end Go.Proofs.YtigkdehaepenhaaGreatDoor.V

namespace Go.Proofs.YtigkdehaepenhaaGreatDoor.V
open Go.RowKit

theorem Rs.at6 {M : List Nd} {L : List It} {v : Rv} {w : World} (H : Rs M L v w) (hn : 0 < M.length) :
    ∃ gn cn al cl gc cc gd cd ga ca af cf, v = ⟨.slice (some ⟨gn, 0, none⟩) M.length cn, .slice al L.length cl, .slice (some ⟨gc, 0, none⟩) M.length cc, .slice (some ⟨gd, 0, none⟩) M.length cd, .slice (some ⟨ga, 0, none⟩) M.length ca, .slice af (devL M 0).length cf⟩ := by
  obtain ⟨an, cn, al, cl, ac, cc, ad, cd, aa, ca, af, cf, rfl⟩ := H.forms
  obtain ⟨gn, cn', e1, _, _⟩ := owns_some H.hn hn
  obtain ⟨gc, cc', e2, _, _⟩ := owns_some H.hc hn
  obtain ⟨gd, cd', e3, _, _⟩ := owns_some H.hd hn
  obtain ⟨ga, ca', e4, _, _⟩ := owns_some H.ha hn
  simp only [Value.slice.injEq, true_and] at e1 e2 e3 e4
  obtain ⟨rfl, rfl⟩ := e1
  obtain ⟨rfl, rfl⟩ := e2
  obtain ⟨rfl, rfl⟩ := e3
  obtain ⟨rfl, rfl⟩ := e4
  exact ⟨gn, cn, al, cl, gc, cc, gd, cd, ga, ca, af, cf, rfl⟩
theorem Rs.dead_cell {M : List Nd} {L : List It} {gd cd : Nat} {n l c a f : Value} {w : World} (H : Rs M L ⟨n, l, c, .slice (some ⟨gd, 0, none⟩) M.length cd, a, f⟩ w) {i : Nat} {x : Nd} (hx : M[i]? = some x) : w.cell? ⟨gd, i, none⟩ = some (.bool x.dead) :=
  owns_cell H.hd (by unfold deads; rw [List.getElem?_map, hx]; rfl)
theorem Rs.up_cell {M : List Nd} {L : List It} {ga ca : Nat} {n l c d f : Value} {w : World} (H : Rs M L ⟨n, l, c, d, .slice (some ⟨ga, 0, none⟩) M.length ca, f⟩ w) {i : Nat} {x : Nd} (hx : M[i]? = some x) : w.cell? ⟨ga, i, none⟩ = some (.int .i64 x.up) :=
  owns_cell H.ha (by unfold ups; rw [List.getElem?_map, hx]; rfl)
theorem R_over {M : List Nd} {L : List It} (R : Rel M L) {j : Nat} {x : Nd} (hx : M[j]? = some x) : 0 ≤ x.over := R.over x (List.mem_of_getElem? hx)
theorem owns_lower {w : World} {b c : Nat} {e : TypeId} {size n : Nat} {v : Value} {xs : List Value} (h : w.ownsRow b e size v n xs) (hc : c ≤ b) : w.ownsRow c e size v n xs := by
  refine ⟨h.1, ?_⟩
  rcases h.2 with q | ⟨g, cap, cur, q1, q2, q3⟩
  · exact .inl q
  · exact .inr ⟨g, cap, cur, q1, Nat.le_trans hc q2, q3⟩
/-- In w the reference's box lies at b, over the world W. -/
structure FIn (W : World) (v : Rv) (w : World) : Prop where
  box : w.heap[W.heap.size]? = some (.cells #[v.n, v.l, v.c, v.d, v.a, v.f] 32)
  below : Below W.heap.size W w
theorem FIn.begin (W : World) (v : Rv) : FIn W v (W.alloc (.cells #[v.n, v.l, v.c, v.d, v.a, v.f] 32)) :=
  ⟨heap_alloc_new _ _, (Below.refl _ _).alloc (Nat.le_refl _) _⟩
theorem FIn.keep {W : World} {v : Rv} {w w' : World} (h : FIn W v w) (hb : Below w.heap.size w w') : FIn W v w' := ⟨box_keep2 h.box hb, below_two h.below hb⟩
theorem FIn.cells {W : World} {v : Rv} {w : World} (h : FIn W v w) :
    w.cell? ⟨W.heap.size, 0, none⟩ = some v.n ∧ w.cell? ⟨W.heap.size, 1, none⟩ = some v.l ∧ w.cell? ⟨W.heap.size, 2, none⟩ = some v.c ∧ w.cell? ⟨W.heap.size, 3, none⟩ = some v.d ∧ w.cell? ⟨W.heap.size, 4, none⟩ = some v.a ∧ w.cell? ⟨W.heap.size, 5, none⟩ = some v.f := by
  refine ⟨?_, ?_, ?_, ?_, ?_, ?_⟩ <;> (rw [cell_of_row _ _ _ _ _ _ h.box]; rfl)

set_option maxRecDepth 100000 in
set_option maxHeartbeats 4000000 in
theorem rover_any (M : List Nd) (L : List It) (v : Rv) (i : Int) (w : World) (H : Rs M L v w) (R : Rel M L) (hn : 0 < M.length) (hM : M.length ≤ 1000000) (hL : L.length ≤ 1000000) :
    Calls Tryz.prog 61 #[rvV v, .int .i64 i] w fun e w' => e = .returned (.int .i64 (overI M i)) ∧ Below w.heap.size w w' := by
  have HH := Lib.hid H
  obtain ⟨gn, cn, al, cl, gc, cc, gd, cd, ga, ca, af, cf, rfl⟩ := H.at6 hn
  have HR := Lib.hid R
  have HF0 := Lib.hid (FIn.begin w ⟨.slice (some ⟨gn, 0, none⟩) M.length cn, .slice al L.length cl, .slice (some ⟨gc, 0, none⟩) M.length cc, .slice (some ⟨gd, 0, none⟩) M.length cd, .slice (some ⟨ga, 0, none⟩) M.length ca, .slice af (devL M 0).length cf⟩)
  clear H R
  cases hto : atM M i with
  | none =>
    have hno := Lib.hid (atM_none_dec hto)
    have HA := Lib.hid (show overI M i = i from by unfold overI; rw [hto])
    clear hto
    unfold rvV
    go_enter Tryz.func61, Tryz.ntmps61
    go_upto_region 1 with fail
    have hf := HF0.out
    dsimp only at hf
    generalize w.alloc (.cells #[.slice (some ⟨gn, 0, none⟩) M.length cn, .slice al L.length cl, .slice (some ⟨gc, 0, none⟩) M.length cc, .slice (some ⟨gd, 0, none⟩) M.length cd, .slice (some ⟨ga, 0, none⟩) M.length ca, .slice af (devL M 0).length cf] 32) = w2 at hf ⊢
    have HF := Lib.hid hf
    obtain ⟨s0, s1, s2, s3, s4, s5⟩ := hf.cells
    clear hf HF0
    go_wp2_with fail
    refine (refHas_any M L _ i _ (HH.out.keep HF.out.below)).mono ?_
    rintro e w3 ⟨rfl, hb3⟩
    rw [hno.out]
    have HB3 := Lib.hid (below_two HF.out.below hb3)
    clear hb3
    go_wp2_with fail
    go_ret
    exact ⟨ret_int HA.out.symm, HB3.out⟩
  | some x =>
    have hyes := Lib.hid (atM_some_dec hto)
    obtain ⟨j, hj, hx⟩ := atM_some hto
    subst hj
    have hjl : j < M.length := (List.getElem?_eq_some_iff.1 hx).1
    have HA := Lib.hid (show overI M (j : Int) = x.over from by unfold overI; rw [hto])
    have h0 := R_over HR.out hx
    have HX := Lib.hid hx
    clear hto hx
    unfold rvV
    go_enter Tryz.func61, Tryz.ntmps61
    go_upto_region 1 with fail
    have hf := HF0.out
    dsimp only at hf
    generalize w.alloc (.cells #[.slice (some ⟨gn, 0, none⟩) M.length cn, .slice al L.length cl, .slice (some ⟨gc, 0, none⟩) M.length cc, .slice (some ⟨gd, 0, none⟩) M.length cd, .slice (some ⟨ga, 0, none⟩) M.length ca, .slice af (devL M 0).length cf] 32) = w2 at hf ⊢
    have HF := Lib.hid hf
    obtain ⟨s0, s1, s2, s3, s4, s5⟩ := hf.cells
    clear hf HF0
    go_wp2_with fail
    refine (refHas_any M L _ (j : Int) _ (HH.out.keep HF.out.below)).mono ?_
    rintro e w3 ⟨rfl, hb3⟩
    rw [hyes.out]
    have HF3 := Lib.hid (HF.out.keep hb3)
    clear hb3 HF s0 s1 s2 s3 s4 s5
    obtain ⟨s0, s1, s2, s3, s4, s5⟩ := HF3.out.cells
    have HS3 := Lib.hid (HH.out.keep HF3.out.below)
    have n2 : w3.cell? ⟨gc, j, none⟩ = some (.int .i64 (cov j x)) := HS3.out.cov_cell HX.out
    unfold cov at n2
    by_cases ho : x.over = (j : Int)
    · rw [if_pos ho] at n2
      go_wp2_with fail
      go_ret
      exact ⟨ret_int (by rw [HA.out, ho]), HF3.out.below⟩
    · rw [if_neg ho] at n2
      have d1 : decide ((0 : Int) ≤ x.over) = true := decide_eq_true h0
      clear ho
      go_wp2_with fail
      go_ret
      exact ⟨ret_int HA.out.symm, HF3.out.below⟩

set_option maxRecDepth 100000 in
set_option maxHeartbeats 4000000 in
theorem rup_any (M : List Nd) (L : List It) (v : Rv) (i : Int) (w : World) (H : Rs M L v w) (R : Rel M L) (hn : 0 < M.length) (hM : M.length ≤ 1000000) (hL : L.length ≤ 1000000) :
    Calls Tryz.prog 60 #[rvV v, .int .i64 i] w fun e w' => e = .returned (.int .i64 (upI M i)) ∧ Below w.heap.size w w' := by
  have HH := Lib.hid H
  obtain ⟨gn, cn, al, cl, gc, cc, gd, cd, ga, ca, af, cf, rfl⟩ := H.at6 hn
  have HR := Lib.hid R
  have HF0 := Lib.hid (FIn.begin w ⟨.slice (some ⟨gn, 0, none⟩) M.length cn, .slice al L.length cl, .slice (some ⟨gc, 0, none⟩) M.length cc, .slice (some ⟨gd, 0, none⟩) M.length cd, .slice (some ⟨ga, 0, none⟩) M.length ca, .slice af (devL M 0).length cf⟩)
  clear H R
  cases hto : atM M i with
  | none =>
    have hno := Lib.hid (atM_none_dec hto)
    have HA := Lib.hid (show upI M i = -1 from by unfold upI; rw [hto])
    clear hto
    unfold rvV
    go_enter Tryz.func60, Tryz.ntmps60
    go_upto_region 1 with fail
    have hf := HF0.out
    dsimp only at hf
    generalize w.alloc (.cells #[.slice (some ⟨gn, 0, none⟩) M.length cn, .slice al L.length cl, .slice (some ⟨gc, 0, none⟩) M.length cc, .slice (some ⟨gd, 0, none⟩) M.length cd, .slice (some ⟨ga, 0, none⟩) M.length ca, .slice af (devL M 0).length cf] 32) = w2 at hf ⊢
    have HF := Lib.hid hf
    obtain ⟨s0, s1, s2, s3, s4, s5⟩ := hf.cells
    clear hf HF0
    go_wp2_with fail
    refine (refHas_any M L _ i _ (HH.out.keep HF.out.below)).mono ?_
    rintro e w3 ⟨rfl, hb3⟩
    rw [hno.out]
    have HB3 := Lib.hid (below_two HF.out.below hb3)
    clear hb3
    go_wp2_with fail
    go_ret
    exact ⟨ret_int HA.out.symm, HB3.out⟩
  | some x =>
    have hyes := Lib.hid (atM_some_dec hto)
    obtain ⟨j, hj, hx⟩ := atM_some hto
    subst hj
    have hjl : j < M.length := (List.getElem?_eq_some_iff.1 hx).1
    have HA := Lib.hid (show upI M (j : Int) = x.up from by unfold upI; rw [hto])
    have HX := Lib.hid hx
    clear hto hx
    unfold rvV
    go_enter Tryz.func60, Tryz.ntmps60
    go_upto_region 1 with fail
    have hf := HF0.out
    dsimp only at hf
    generalize w.alloc (.cells #[.slice (some ⟨gn, 0, none⟩) M.length cn, .slice al L.length cl, .slice (some ⟨gc, 0, none⟩) M.length cc, .slice (some ⟨gd, 0, none⟩) M.length cd, .slice (some ⟨ga, 0, none⟩) M.length ca, .slice af (devL M 0).length cf] 32) = w2 at hf ⊢
    have HF := Lib.hid hf
    obtain ⟨s0, s1, s2, s3, s4, s5⟩ := hf.cells
    clear hf HF0
    go_wp2_with fail
    refine (refHas_any M L _ (j : Int) _ (HH.out.keep HF.out.below)).mono ?_
    rintro e w3 ⟨rfl, hb3⟩
    rw [hyes.out]
    have HF3 := Lib.hid (HF.out.keep hb3)
    clear hb3 HF s0 s1 s2 s3 s4 s5
    obtain ⟨s0, s1, s2, s3, s4, s5⟩ := HF3.out.cells
    have HS3 := Lib.hid (HH.out.keep HF3.out.below)
    have n2 : w3.cell? ⟨ga, j, none⟩ = some (.int .i64 x.up) := HS3.out.up_cell HX.out
    go_wp2_with fail
    go_ret
    exact ⟨ret_int HA.out.symm, HF3.out.below⟩

set_option maxRecDepth 100000 in
set_option maxHeartbeats 4000000 in
theorem rlink_any (M : List Nd) (L : List It) (v : Rv) (i : Int) (w : World) (H : Rs M L v w) (R : Rel M L) (hn : 0 < M.length) (hM : M.length ≤ 1000000) (hL : L.length ≤ 1000000) :
    Calls Tryz.prog 54 #[rvV v, .int .i64 i] w fun e w' => e = .returned (.tuple #[.string (linkT M i), .int .i64 (linkE M i)]) ∧ Below w.heap.size w w' := by
  have HH := Lib.hid H
  obtain ⟨gn, cn, al, cl, gc, cc, gd, cd, ga, ca, af, cf, rfl⟩ := H.at6 hn
  have HR := Lib.hid R
  have HF0 := Lib.hid (FIn.begin w ⟨.slice (some ⟨gn, 0, none⟩) M.length cn, .slice al L.length cl, .slice (some ⟨gc, 0, none⟩) M.length cc, .slice (some ⟨gd, 0, none⟩) M.length cd, .slice (some ⟨ga, 0, none⟩) M.length ca, .slice af (devL M 0).length cf⟩)
  clear H R
  cases hto : atM M i with
  | none =>
    have hno := Lib.hid (atM_none_dec hto)
    have HA := Lib.hid (show linkT M i = ⟨#[]⟩ ∧ linkE M i = 2 from by unfold linkT linkE; rw [hto]; exact ⟨rfl, rfl⟩)
    clear hto
    unfold rvV
    go_enter Tryz.func54, Tryz.ntmps54
    go_upto_region 1 with fail
    have hf := HF0.out
    dsimp only at hf
    generalize w.alloc (.cells #[.slice (some ⟨gn, 0, none⟩) M.length cn, .slice al L.length cl, .slice (some ⟨gc, 0, none⟩) M.length cc, .slice (some ⟨gd, 0, none⟩) M.length cd, .slice (some ⟨ga, 0, none⟩) M.length ca, .slice af (devL M 0).length cf] 32) = w2 at hf ⊢
    have HF := Lib.hid hf
    obtain ⟨s0, s1, s2, s3, s4, s5⟩ := hf.cells
    clear hf HF0
    go_wp2_with fail
    refine (refHas_any M L _ i _ (HH.out.keep HF.out.below)).mono ?_
    rintro e w3 ⟨rfl, hb3⟩
    rw [hno.out]
    have HB3 := Lib.hid (below_two HF.out.below hb3)
    clear hb3
    go_wp2_with fail
    go_ret2
    exact ⟨(by rw [HA.out.1, HA.out.2]; rfl), HB3.out⟩
  | some x =>
    have hyes := Lib.hid (atM_some_dec hto)
    obtain ⟨j, hj, hx⟩ := atM_some hto
    subst hj
    have hjl : j < M.length := (List.getElem?_eq_some_iff.1 hx).1
    have HA := Lib.hid (show linkT M (j : Int) = (if x.kind = 3 then (if x.dead then ⟨#[]⟩ else x.target) else ⟨#[]⟩) ∧ linkE M (j : Int) = (if x.kind = 3 then (if x.dead then 8 else 0) else 1) from by unfold linkT linkE; rw [hto]; exact ⟨rfl, rfl⟩)
    have HX := Lib.hid hx
    clear hto hx
    unfold rvV
    go_enter Tryz.func54, Tryz.ntmps54
    go_upto_region 1 with fail
    have hf := HF0.out
    dsimp only at hf
    generalize w.alloc (.cells #[.slice (some ⟨gn, 0, none⟩) M.length cn, .slice al L.length cl, .slice (some ⟨gc, 0, none⟩) M.length cc, .slice (some ⟨gd, 0, none⟩) M.length cd, .slice (some ⟨ga, 0, none⟩) M.length ca, .slice af (devL M 0).length cf] 32) = w2 at hf ⊢
    have HF := Lib.hid hf
    obtain ⟨s0, s1, s2, s3, s4, s5⟩ := hf.cells
    clear hf HF0
    go_wp2_with fail
    refine (refHas_any M L _ (j : Int) _ (HH.out.keep HF.out.below)).mono ?_
    rintro e w3 ⟨rfl, hb3⟩
    rw [hyes.out]
    have HF3 := Lib.hid (HF.out.keep hb3)
    clear hb3 HF s0 s1 s2 s3 s4 s5
    obtain ⟨s0, s1, s2, s3, s4, s5⟩ := HF3.out.cells
    have HS3 := Lib.hid (HH.out.keep HF3.out.below)
    have n2 : w3.cell? ⟨gn, j * 13 + 2, none⟩ = some (.int .i64 x.kind) := HS3.out.node_cell HX.out (by omega) rfl
    have n3 : w3.cell? ⟨gd, j, none⟩ = some (.bool x.dead) := HS3.out.dead_cell HX.out
    have n4 : w3.cell? ⟨gn, j * 13 + 12, none⟩ = some (.string x.target) := HS3.out.node_cell HX.out (by omega) rfl
    by_cases hk : x.kind = 3
    · have b1 : (x.kind != 3) = false := by simp [hk]
      have HA2 := HA.out
      rw [if_pos hk, if_pos hk] at HA2
      have HA3 := Lib.hid HA2
      clear HA HA2 hk
      cases hd : x.dead with
      | true =>
        rw [hd] at n3
        have HA4 := Lib.hid (show linkT M (j : Int) = ⟨#[]⟩ ∧ linkE M (j : Int) = 8 from by rw [HA3.out.1, HA3.out.2, hd]; exact ⟨rfl, rfl⟩)
        clear hd HA3
        go_wp2_with fail
        go_ret2
        exact ⟨(by rw [HA4.out.1, HA4.out.2]; rfl), HF3.out.below⟩
      | false =>
        rw [hd] at n3
        have HA4 := Lib.hid (show linkT M (j : Int) = x.target ∧ linkE M (j : Int) = 0 from by rw [HA3.out.1, HA3.out.2, hd]; exact ⟨rfl, rfl⟩)
        clear hd HA3
        go_wp2_with fail
        go_ret2
        exact ⟨(by rw [HA4.out.1, HA4.out.2]; rfl), HF3.out.below⟩
    · have b1 : (x.kind != 3) = true := by simp [hk]
      have HA2 := HA.out
      rw [if_neg hk, if_neg hk] at HA2
      have HA3 := Lib.hid HA2
      clear HA HA2 hk
      go_wp2_with fail
      go_ret2
      exact ⟨(by rw [HA3.out.1, HA3.out.2]; rfl), HF3.out.below⟩

theorem entsL_next {L : List It} {k : Nat} {y : It} (h : L[k]? = some y) (i : Int) : entsL (L.take (k + 1)) i = entsL (L.take k) i ++ if y.at_ = i then [(y.name, y.id)] else [] := by
  unfold entsL
  rw [List.take_add_one, h, List.filter_append, List.map_append]
  show _ ++ List.map _ (List.filter _ [y]) = _
  rw [List.filter_cons, List.filter_nil]
  by_cases q : y.at_ = i
  · rw [if_pos q, if_pos (by simpa using q)]; rfl
  · rw [if_neg q, if_neg (by simpa using q)]; rfl
theorem entsL_len (L : List It) (i : Int) : (entsL L i).length ≤ L.length := by
  unfold entsL
  rw [List.length_map]
  exact List.length_filter_le _ _
def ListRel (L : List It) (i : Int) (W : World) (v6 v7 : Value) (wr : World) : Prop :=
  ∃ k : Nat, k ≤ L.length ∧ v7 = .int .i64 (k : Int) ∧ Hid (Below W.heap.size W wr) ∧ Hid (wr.ownsRow W.heap.size 100 2 v6 (entsL (L.take k) i).length (entCells (entsL (L.take k) i)))

set_option maxRecDepth 100000 in
set_option maxHeartbeats 4000000 in
theorem rlist_any (M : List Nd) (L : List It) (v : Rv) (i : Int) (w : World) (H : Rs M L v w) (R : Rel M L) (hn : 0 < M.length) (hM : M.length ≤ 1000000) (hL : L.length ≤ 1000000) :
    Calls Tryz.prog 62 #[rvV v, .int .i64 i] w fun e w' => ∃ u, e = .returned (.tuple #[u, .int .i64 (listE M i)]) ∧ w'.ownsRow w.heap.size 100 2 u (listL M i).length (entCells (listL M i)) ∧ Below w.heap.size w w' := by
  have HH := Lib.hid H
  obtain ⟨gn, cn, al, cl, gc, cc, gd, cd, ga, ca, af, cf, rfl⟩ := H.at6 hn
  have HR := Lib.hid R
  have HF0 := Lib.hid (FIn.begin w ⟨.slice (some ⟨gn, 0, none⟩) M.length cn, .slice al L.length cl, .slice (some ⟨gc, 0, none⟩) M.length cc, .slice (some ⟨gd, 0, none⟩) M.length cd, .slice (some ⟨ga, 0, none⟩) M.length ca, .slice af (devL M 0).length cf⟩)
  clear H R
  cases hto : atM M i with
  | none =>
    have hno := Lib.hid (atM_none_dec hto)
    have HA := Lib.hid (show listL M i = [] ∧ listE M i = 2 from by unfold listL listE; rw [hto]; exact ⟨rfl, rfl⟩)
    clear hto
    unfold rvV
    go_enter Tryz.func62, Tryz.ntmps62
    go_upto_region 1 with fail
    have hf := HF0.out
    dsimp only at hf
    generalize w.alloc (.cells #[.slice (some ⟨gn, 0, none⟩) M.length cn, .slice al L.length cl, .slice (some ⟨gc, 0, none⟩) M.length cc, .slice (some ⟨gd, 0, none⟩) M.length cd, .slice (some ⟨ga, 0, none⟩) M.length ca, .slice af (devL M 0).length cf] 32) = w2 at hf ⊢
    have HF := Lib.hid hf
    obtain ⟨s0, s1, s2, s3, s4, s5⟩ := hf.cells
    clear hf HF0
    go_wp2_with fail
    refine (refHas_any M L _ i _ (HH.out.keep HF.out.below)).mono ?_
    rintro e w3 ⟨rfl, hb3⟩
    rw [hno.out]
    have HB3 := Lib.hid (below_two HF.out.below hb3)
    clear hb3
    go_wp2_with fail
    go_ret2
    exact ⟨_, (by rw [HA.out.2]; rfl), by rw [HA.out.1]; exact World.ownsRow_nil _ _ _ _, HB3.out⟩
  | some x =>
    have hyes := Lib.hid (atM_some_dec hto)
    obtain ⟨j, hj, hx⟩ := atM_some hto
    subst hj
    have hjl : j < M.length := (List.getElem?_eq_some_iff.1 hx).1
    have HA := Lib.hid (show listL M (j : Int) = (if x.kind = 2 then (if x.dead then [] else x.ents) else []) ∧ listE M (j : Int) = (if x.kind = 2 then (if x.dead then 8 else 0) else 3) from by unfold listL listE; rw [hto]; exact ⟨rfl, rfl⟩)
    have HX := Lib.hid hx
    clear hto hx
    unfold rvV
    go_enter Tryz.func62, Tryz.ntmps62
    go_upto_region 1 with fail
    have hf := HF0.out
    dsimp only at hf
    generalize w.alloc (.cells #[.slice (some ⟨gn, 0, none⟩) M.length cn, .slice al L.length cl, .slice (some ⟨gc, 0, none⟩) M.length cc, .slice (some ⟨gd, 0, none⟩) M.length cd, .slice (some ⟨ga, 0, none⟩) M.length ca, .slice af (devL M 0).length cf] 32) = w2 at hf ⊢
    have HF := Lib.hid hf
    obtain ⟨s0, s1, s2, s3, s4, s5⟩ := hf.cells
    clear hf HF0
    go_wp2_with fail
    refine (refHas_any M L _ (j : Int) _ (HH.out.keep HF.out.below)).mono ?_
    rintro e w3 ⟨rfl, hb3⟩
    rw [hyes.out]
    have HF3 := Lib.hid (HF.out.keep hb3)
    clear hb3 HF s0 s1 s2 s3 s4 s5
    obtain ⟨s0, s1, s2, s3, s4, s5⟩ := HF3.out.cells
    have HS3 := Lib.hid (HH.out.keep HF3.out.below)
    have n2 : w3.cell? ⟨gn, j * 13 + 2, none⟩ = some (.int .i64 x.kind) := HS3.out.node_cell HX.out (by omega) rfl
    have n3 : w3.cell? ⟨gd, j, none⟩ = some (.bool x.dead) := HS3.out.dead_cell HX.out
    by_cases hk : x.kind = 2
    · have b1 : (x.kind != 2) = false := by simp [hk]
      have HA2 := HA.out
      rw [if_pos hk, if_pos hk] at HA2
      have HA3 := Lib.hid HA2
      clear HA HA2 hk
      cases hd : x.dead with
      | true =>
        rw [hd] at n3
        have HA4 := Lib.hid (show listL M (j : Int) = [] ∧ listE M (j : Int) = 8 from by rw [HA3.out.1, HA3.out.2, hd]; exact ⟨rfl, rfl⟩)
        clear hd HA3
        go_wp2_with fail
        go_ret2
        exact ⟨_, (by rw [HA4.out.2]; rfl), by rw [HA4.out.1]; exact World.ownsRow_nil _ _ _ _, HF3.out.below⟩
      | false =>
        rw [hd] at n3
        have HA4 := Lib.hid (show listL M (j : Int) = entsL L (j : Int) ∧ listE M (j : Int) = 0 from by rw [HA3.out.1, HA3.out.2, hd]; exact ⟨(HR.out.ents j x HX.out), rfl⟩)
        clear hd HA3
        obtain ⟨i0, hi0, hz0, hz1, hz2⟩ := info_parts infoEnt
        go_wp2_with fail
        go_loopw [6, 7] (ListRel L (j : Int) w3) (fun _ v _ => L.length - (intOf v).toNat)
        case atStart => exact ⟨0, Nat.zero_le _, rfl, Lib.hid (Below.refl _ _), Lib.hid (World.ownsRow_nil _ _ _ _)⟩
        case round =>
          obtain ⟨k, hk, rfl, HB, HO⟩ := hrel
          have hsz := HB.out.size
          clear s0 s1 s2 s3 s4 s5 n2 n3
          obtain ⟨s0, s1, s2, s3, s4, s5⟩ := (HF3.out.keep HB.out).cells
          by_cases hlt : k < L.length
          · have d1 : decide ((k : Int) < (L.length : Int)) = true := decide_eq_true (by omega)
            obtain ⟨y, hy⟩ : ∃ y, L[k]? = some y := ⟨_, List.getElem?_eq_getElem hlt⟩
            obtain ⟨gl, rfl, m1, m2, m3⟩ := (HH.out.keep (below_two HF3.out.below HB.out)).item_cell hy
            have HNX := Lib.hid (entsL_next hy (j : Int))
            have hle := entsL_len (L.take k) (j : Int)
            rw [List.length_take, Nat.min_eq_left hk] at hle
            have HM := Lib.hid (show (entsL (L.take k) (j : Int)).length + 1 ≤ maxLen from by unfold maxLen; omega)
            have hle' : (entsL (L.take k) (j : Int)).length ≤ 1000000 := by omega
            clear hy hle
            by_cases ha : y.at_ = (j : Int)
            · have b2 : (y.at_ == (j : Int)) = true := by simp [ha]
              have HNY := Lib.hid (show entsL (L.take (k + 1)) (j : Int) = entsL (L.take k) (j : Int) ++ [(y.name, y.id)] from by rw [HNX.out, if_pos ha])
              clear ha HNX
              go_wp2_with (at_builtin; (refine wpList_append_own _ rfl (.tmp 39) (.tmp 46) 90 rfl w3.heap.size 100 i0 _ 2 24 Tryz.underlying90 hi0 hz0 hz1 hz2 rfl (by decide) _ _ _ rfl (HO.out.alloc _) ⟨wr.heap.size, 0, none⟩ 1 1 [.string y.name, .int .i64 y.id] rfl rfl (World.news_of_block (heap_alloc_new _ _)) (by intro u hu; simp at hu; rcases hu with rfl | rfl <;> rfl) HM.out (by omega) (by simp; omega) ?_; intro v1 w1 hown1 hgrow hnil))
              have RR := Lib.hid (show ListRel L (j : Int) w3 v1 (.int .i64 ((k : Int) + 1)) w1 from ⟨k + 1, by omega, by simp, Lib.hid ((HB.out.alloc hsz _).grown hgrow (by simp; omega) (fun q hq => (HO.out.lt q hq).1)), Lib.hid (by
                rw [HNY.out, List.length_append, entCells_append]
                exact hown1)⟩)
              clear hown1 hgrow hnil
              go_roundw
              case rel => exact RR.out
              case measure => simp [intOf]; omega
            · have b2 : (y.at_ == (j : Int)) = false := by simp [ha]
              have HNY := Lib.hid (show entsL (L.take (k + 1)) (j : Int) = entsL (L.take k) (j : Int) from by rw [HNX.out, if_neg ha, List.append_nil])
              clear ha HNX
              go_wp2_with fail
              go_roundw
              case rel => exact ⟨k + 1, by omega, by simp, HB, Lib.hid (by rw [HNY.out]; exact HO.out)⟩
              case measure => simp [intOf]; omega
          · have d1 : decide ((k : Int) < (L.length : Int)) = false := decide_eq_false (by omega)
            have HE := Lib.hid (show entsL (L.take k) (j : Int) = entsL L (j : Int) from by rw [List.take_of_length_le (by omega)])
            go_wp2_with fail
            go_ret2
            exact ⟨_, (by rw [HA4.out.2]; rfl), by rw [HA4.out.1, ← HE.out]; exact owns_lower HO.out HF3.out.below.size, below_two HF3.out.below HB.out⟩
    · have b1 : (x.kind != 2) = true := by simp [hk]
      have HA2 := HA.out
      rw [if_neg hk, if_neg hk] at HA2
      have HA3 := Lib.hid HA2
      clear HA HA2 hk
      go_wp2_with fail
      go_ret2
      exact ⟨_, (by rw [HA3.out.2]; rfl), by rw [HA3.out.1]; exact World.ownsRow_nil _ _ _ _, HF3.out.below⟩


/-- A node's cells, with that many links. -/
def nodeCs (x : Nd) (l : Int) : List Value := [.int .i64 x.dev, .int .i64 x.ino, .int .i64 x.kind, .int .i64 x.mode, .int .i64 x.uid, .int .i64 x.gid, .int .i64 x.size, .int .i64 x.blocks, .int .i64 l, .int .i64 x.t0, .int .i64 x.t1, .int .i64 x.t2, .string x.target]
theorem nodeCs_one (x : Nd) (l : Int) : (nodeCs x l).toArray.all (·.oneCell') = true := all_oneCell_toArray (fun u hu => by
  simp only [nodeCs, List.mem_cons, List.mem_nil_iff, or_false] at hu
  rcases hu with rfl | rfl | rfl | rfl | rfl | rfl | rfl | rfl | rfl | rfl | rfl | rfl | rfl
  all_goals rfl)
theorem lcnt_drop {K : List Int} {d : Bool} {i : Int} {L : List It} {k : Nat} {y : It} (h : L[k]? = some y) : lcnt K d i (L.drop k) = (if hitB K d i y = true then 1 else 0) + lcnt K d i (L.drop (k + 1)) := by
  obtain ⟨hk, rfl⟩ := List.getElem?_eq_some_iff.1 h
  rw [List.drop_eq_getElem_cons hk, lcnt]
theorem lcnt_nn (K : List Int) (d : Bool) (i : Int) : ∀ L, 0 ≤ lcnt K d i L ∧ lcnt K d i L ≤ (L.length : Int)
  | [] => ⟨Int.le_refl _, Int.le_refl _⟩
  | e :: r => by
    have := lcnt_nn K d i r
    rw [lcnt, List.length_cons]
    split <;> omega
/-- What the count holds: k entries are looked at, the node's box has so many links. -/
def NodeRel (M : List Nd) (L : List It) (v : Rv) (x : Nd) (D : Bool) (j : Nat) (t : Int) (w : World) (nb : Nat) (i : Value) (wr : World) : Prop :=
  ∃ (k : Nat) (l : Int), k ≤ L.length ∧ i = .int .i64 (k : Int) ∧ (0 ≤ l ∧ l ≤ 2 + (k : Int)) ∧ Hid (l + lcnt (kindsM M) D (j : Int) (L.drop k) = t) ∧ Hid (FIn w v wr) ∧ Hid (wr.heap[nb]? = some (.cells (nodeCs x l).toArray 62 (0, 0))) ∧
    Hid (wr.heap[w.heap.size + 1]? = some (.cells zeroCells 62 (0, 0)))
theorem NodeRel.skip {M : List Nd} {L : List It} {v : Rv} {x : Nd} {D : Bool} {j : Nat} {t : Int} {w wr : World} {nb k : Nat} {l : Int} {y : It} (hy : L[k]? = some y) (hl : 0 ≤ l ∧ l ≤ 2 + (k : Int)) (ht : l + lcnt (kindsM M) D (j : Int) (L.drop k) = t) (hF : FIn w v wr)
    (hb : wr.heap[nb]? = some (.cells (nodeCs x l).toArray 62 (0, 0))) (hz : wr.heap[w.heap.size + 1]? = some (.cells zeroCells 62 (0, 0))) (hit : hitB (kindsM M) D (j : Int) y = false) (q : Nat) :
    NodeRel M L v x D j t w nb (.int .i64 ((k : Int) + 1)) (wr.drewN q) := by
  have hk := (List.getElem?_eq_some_iff.1 hy).1
  rw [lcnt_drop hy, hit] at ht
  exact ⟨k + 1, l, by omega, by simp, ⟨hl.1, by have := hl.2; omega⟩, Lib.hid (by rw [← ht]; simp), Lib.hid ⟨hF.box, below_drewN' hF.below⟩, Lib.hid hb, Lib.hid hz⟩
theorem NodeRel.more {M : List Nd} {L : List It} {v : Rv} {x : Nd} {D : Bool} {j : Nat} {t : Int} {w wr : World} {nb k : Nat} {l : Int} {y : It} (hy : L[k]? = some y) (hl : 0 ≤ l ∧ l ≤ 2 + (k : Int)) (ht : l + lcnt (kindsM M) D (j : Int) (L.drop k) = t) (hF : FIn w v wr)
    (hb : wr.heap[nb]? = some (.cells (nodeCs x l).toArray 62 (0, 0))) (hz : wr.heap[w.heap.size + 1]? = some (.cells zeroCells 62 (0, 0))) (hit : hitB (kindsM M) D (j : Int) y = true) (hnb : w.heap.size + 1 < nb) (q : Nat) :
    NodeRel M L v x D j t w nb (.int .i64 ((k : Int) + 1)) ((wr.drewN q).setCell ⟨nb, 8, none⟩ (.int .i64 (l + 1))) := by
  have hk := (List.getElem?_eq_some_iff.1 hy).1
  rw [lcnt_drop hy, hit] at ht
  have hb' : (wr.drewN q).heap[nb]? = some (.cells (nodeCs x l).toArray 62 (0, 0)) := hb
  refine ⟨k + 1, l + 1, by omega, by simp, ⟨by omega, by have := hl.2; omega⟩, Lib.hid (by rw [← ht]; simp; omega), Lib.hid ⟨?_, (below_drewN' hF.below).setCell (by show w.heap.size ≤ nb; omega) _⟩, Lib.hid ?_, Lib.hid ?_⟩
  · rw [heap_setCell_other _ _ _ _ (by show w.heap.size ≠ nb; omega)]
    exact hF.box
  · rw [heap_setCell_same _ _ _ _ _ _ hb']
    rfl
  · rw [heap_setCell_other _ _ _ _ (by show w.heap.size + 1 ≠ nb; omega)]
    exact hz

set_option maxRecDepth 100000 in
set_option maxHeartbeats 8000000 in
theorem rnode_any (M : List Nd) (L : List It) (v : Rv) (j : Nat) (x : Nd) (w : World) (H : Rs M L v w) (R : Rel M L) (hx : M[j]? = some x) (hM : M.length ≤ 1000000) (hL : L.length ≤ 1000000) :
    Calls Tryz.prog 49 #[rvV v, .int .i64 (j : Int)] w fun e w' => e = .returned (.agg (nodeCs x ((if x.kind = 2 then 2 else 0) + lcnt (kindsM M) (decide (x.kind = 2)) (j : Int) L)).toArray) ∧ Below w.heap.size w w' := by
  have HH := Lib.hid H
  have hjl : j < M.length := (List.getElem?_eq_some_iff.1 hx).1
  obtain ⟨gn, cn, al, cl, gc, cc, gd, cd, ga, ca, af, cf, rfl⟩ := H.at6 (by omega)
  have HR := Lib.hid R
  have HX := Lib.hid hx
  have HF0 := Lib.hid ((FIn.begin w ⟨.slice (some ⟨gn, 0, none⟩) M.length cn, .slice al L.length cl, .slice (some ⟨gc, 0, none⟩) M.length cc, .slice (some ⟨gd, 0, none⟩) M.length cd, .slice (some ⟨ga, 0, none⟩) M.length ca, .slice af (devL M 0).length cf⟩).keep ((Below.refl _ _).alloc (Nat.le_refl _) (.cells zeroCells 62)))
  have HZ0 := Lib.hid (heap_alloc_new (w.alloc (.cells #[.slice (some ⟨gn, 0, none⟩) M.length cn, .slice al L.length cl, .slice (some ⟨gc, 0, none⟩) M.length cc, .slice (some ⟨gd, 0, none⟩) M.length cd, .slice (some ⟨ga, 0, none⟩) M.length ca, .slice af (devL M 0).length cf] 32)) (.cells zeroCells 62))
  have HS0 := Lib.hid (show ((w.alloc (.cells #[.slice (some ⟨gn, 0, none⟩) M.length cn, .slice al L.length cl, .slice (some ⟨gc, 0, none⟩) M.length cc, .slice (some ⟨gd, 0, none⟩) M.length cd, .slice (some ⟨ga, 0, none⟩) M.length ca, .slice af (devL M 0).length cf] 32)).alloc (.cells zeroCells 62)).heap.size = w.heap.size + 2 from by simp)
  have HRg := Lib.hid (show ∀ W, Below w.heap.size w W → W.rangeAt gn (j * 13) x.bare from fun W hb k u hu => (HH.out.keep hb).node_cell HX.out (by have := (List.getElem?_eq_some_iff.1 hu).1; rw [bare_len] at this; exact this) hu)
  clear H R hx
  obtain ⟨D, hD⟩ : ∃ D, decide (x.kind = 2) = D := ⟨_, rfl⟩
  rw [hD]
  obtain ⟨T, hT⟩ : ∃ T, (if x.kind = 2 then 2 else 0) + lcnt (kindsM M) D (j : Int) L = T := ⟨_, rfl⟩
  rw [hT]
  have HD := Lib.hid hD
  have HT0 := Lib.hid hT
  clear hD hT
  unfold rvV
  go_enter Tryz.func49, Tryz.ntmps49
  go_upto_region 1 with fail
  have hf := HF0.out
  have hz := HZ0.out
  have hs := HS0.out
  rw [show (w.alloc (.cells #[.slice (some ⟨gn, 0, none⟩) M.length cn, .slice al L.length cl, .slice (some ⟨gc, 0, none⟩) M.length cc, .slice (some ⟨gd, 0, none⟩) M.length cd, .slice (some ⟨ga, 0, none⟩) M.length ca, .slice af (devL M 0).length cf] 32)).heap.size = w.heap.size + 1 from by simp] at hz
  unfold zeroCells at hf hz hs
  dsimp only at hf
  clear HF0 HZ0 HS0
  generalize (w.alloc (.cells #[.slice (some ⟨gn, 0, none⟩) M.length cn, .slice al L.length cl, .slice (some ⟨gc, 0, none⟩) M.length cc, .slice (some ⟨gd, 0, none⟩) M.length cd, .slice (some ⟨ga, 0, none⟩) M.length ca, .slice af (devL M 0).length cf] 32)).alloc (.cells #[.int .i64 0, .int .i64 0, .int .i64 0, .int .i64 0, .int .i64 0, .int .i64 0, .int .i64 0, .int .i64 0, .int .i64 0, .int .i64 0, .int .i64 0, .int .i64 0, .string ⟨#[]⟩] 62) = w2 at hf hz hs ⊢
  have HF := Lib.hid hf
  have HZ := Lib.hid hz
  have HSz := Lib.hid hs
  obtain ⟨s0, s1, s2, s3, s4, s5⟩ := hf.cells
  clear hf hz hs
  go_upto_region 2 with (first
    | (refine wpList_load_mid rfl 62 (.tmp 10) rfl gn (j * 13) rfl x.bare _ (HRg.out _ HF.out.below) Tryz.underlying62 rfl sizeKnown ?_)
    | (refine wpList_store_row rfl 62 (.tmp 5) (.tmp 11) rfl w2.heap.size x.bare.toArray rfl rfl 62 _ (heap_alloc_new _ _) (by rw [sizeKnown]; rfl) rfl (nodeCs_one x 0) ?_; rw [World.setRow_alloc_new]))
  have HF3 := Lib.hid (HF.out.keep ((Below.refl w2.heap.size w2).alloc (Nat.le_refl _) (.cells x.bare.toArray 62)))
  have HZ3 := Lib.hid (show (w2.alloc (.cells x.bare.toArray 62)).heap[w.heap.size + 1]? = some (.cells zeroCells 62 (0, 0)) from (heap_alloc_old _ _ (by have := HSz.out; omega)).trans HZ.out)
  have HN3 := Lib.hid (heap_alloc_new w2 (.cells x.bare.toArray 62))
  have HNB := Lib.hid (show w.heap.size + 1 < w2.heap.size from by have := HSz.out; omega)
  generalize w2.alloc (.cells x.bare.toArray 62) = w3 at HF3 HZ3 HN3 ⊢
  generalize w2.heap.size = nb at HN3 HNB ⊢
  clear s0 s1 s2 s3 s4 s5 HF HZ HSz
  obtain ⟨s0, s1, s2, s3, s4, s5⟩ := HF3.out.cells
  have p2 : w3.cell? ⟨nb, 2, none⟩ = some (.int .i64 x.kind) := by rw [cell_of_row _ _ _ _ _ _ HN3.out]; rfl
  have p8 : w3.cell? ⟨nb, 8, none⟩ = some (.int .i64 0) := by rw [cell_of_row _ _ _ _ _ _ HN3.out]; rfl
  have f8 : w3.frozen? ⟨nb, 8, none⟩ = false := frozen_of_row _ _ _ _ _ HN3.out
  by_cases hk : x.kind = 2
  · have e2 : (x.kind == 2) = true := by simp [hk]
    have e3 : (x.kind != 2) = false := by simp [hk]
    have HK := Lib.hid (show D = true from HD.out ▸ decide_eq_true hk)
    have HB3 := Lib.hid (show (w3.setCell ⟨nb, 8, none⟩ (.int .i64 2)).heap[nb]? = some (.cells (nodeCs x 2).toArray 62 (0, 0)) from by rw [heap_setCell_same _ _ _ _ _ _ HN3.out]; try rfl)
    have HF4 := Lib.hid (show FIn w ⟨.slice (some ⟨gn, 0, none⟩) M.length cn, .slice al L.length cl, .slice (some ⟨gc, 0, none⟩) M.length cc, .slice (some ⟨gd, 0, none⟩) M.length cd, .slice (some ⟨ga, 0, none⟩) M.length ca, .slice af (devL M 0).length cf⟩ (w3.setCell ⟨nb, 8, none⟩ (.int .i64 2)) from ⟨by rw [heap_setCell_other _ _ _ _ (by show w.heap.size ≠ nb; have := HNB.out; omega)]; exact HF3.out.box, HF3.out.below.setCell (by show w.heap.size ≤ nb; have := HNB.out; omega) _⟩)
    have HZ4 := Lib.hid (show (w3.setCell ⟨nb, 8, none⟩ (.int .i64 2)).heap[w.heap.size + 1]? = some (.cells zeroCells 62 (0, 0)) from by rw [heap_setCell_other _ _ _ _ (by show w.heap.size + 1 ≠ nb; have := HNB.out; omega)]; exact HZ3.out)
    have HA := Lib.hid (show 2 + lcnt (kindsM M) D (j : Int) L = T from by rw [← HT0.out, if_pos hk])
    clear hk
    go_wp2_with fail
    generalize w3.setCell ⟨nb, 8, none⟩ (.int .i64 2) = w4 at HB3 HF4 HZ4 ⊢
    go_loopw [6] (NodeRel M L ⟨.slice (some ⟨gn, 0, none⟩) M.length cn, .slice al L.length cl, .slice (some ⟨gc, 0, none⟩) M.length cc, .slice (some ⟨gd, 0, none⟩) M.length cd, .slice (some ⟨ga, 0, none⟩) M.length ca, .slice af (devL M 0).length cf⟩ x D j T w nb) (fun v _ => L.length - (intOf v).toNat)
    case atStart => exact ⟨0, 2, Nat.zero_le _, rfl, ⟨by decide, by decide⟩, HA, HF4, HB3, HZ4⟩
    case round =>
      obtain ⟨k, l, hk, rfl, hl, HT, HFr, HBr, HZr⟩ := hrel
      clear s0 s1 s2 s3 s4 s5 p2 p8 f8
      obtain ⟨s0, s1, s2, s3, s4, s5⟩ := HFr.out.cells
      have p2 : wr.cell? ⟨nb, 2, none⟩ = some (.int .i64 x.kind) := by rw [cell_of_row _ _ _ _ _ _ HBr.out]; rfl
      have p8 : wr.cell? ⟨nb, 8, none⟩ = some (.int .i64 l) := by rw [cell_of_row _ _ _ _ _ _ HBr.out]; rfl
      have f8 : wr.frozen? ⟨nb, 8, none⟩ = false := frozen_of_row _ _ _ _ _ HBr.out
      by_cases hlt : k < L.length
      · have d1 : decide ((k : Int) < (L.length : Int)) = true := decide_eq_true (by omega)
        obtain ⟨y, hy⟩ : ∃ y, L[k]? = some y := ⟨_, List.getElem?_eq_getElem hlt⟩
        obtain ⟨gl, rfl, m1, m2, m3⟩ := (HH.out.keep HFr.out.below).item_cell hy
        obtain ⟨q0, q1⟩ := HR.out.id y (List.mem_of_getElem? hy)
        obtain ⟨t, ht⟩ : ∃ t : Nat, y.id = (t : Int) := ⟨y.id.toNat, by omega⟩
        have htl : t < M.length := by omega
        obtain ⟨z, hz⟩ : ∃ z, M[t]? = some z := ⟨_, List.getElem?_eq_getElem htl⟩
        have n2 : wr.cell? ⟨gn, t * 13 + 2, none⟩ = some (.int .i64 z.kind) := (HH.out.keep HFr.out.below).node_cell hz (by omega) rfl
        rw [ht] at m3
        have HKD := Lib.hid (show kdir (kindsM M) y.id = decide (z.kind = 2) from by rw [ht]; exact kdir_at hz)
        have HHit := Lib.hid (show hitB (kindsM M) D (j : Int) y = (y.at_ == (j : Int) && kdir (kindsM M) y.id) from by unfold hitB; rw [HK.out]; rfl)
        have HMo := Lib.hid (NodeRel.more hy hl HT.out HFr.out HBr.out HZr.out (hnb := HNB.out))
        have HSk := Lib.hid (NodeRel.skip hy hl HT.out HFr.out HBr.out HZr.out)
        clear hy hz q0 q1 ht
        by_cases ha : y.at_ = (j : Int)
        · have b2 : (y.at_ == (j : Int)) = true := by simp [ha]
          by_cases hz2 : z.kind = 2
          · have b4 : (z.kind == 2) = true := by simp [hz2]
            have HRel := Lib.hid (HMo.out (by rw [HHit.out, b2, HKD.out, decide_eq_true hz2]; rfl))
            clear ha hz2
            go_upto_region 7 with fail
            go_quiet (fail)
            have c8 : (wr.drewN nq).cell? ⟨nb, 8, none⟩ = some (.int .i64 l) := p8
            have g8 : (wr.drewN nq).frozen? ⟨nb, 8, none⟩ = false := f8
            go_wp2_with fail
            go_roundw
            case rel => exact HRel.out _
            case measure => simp [intOf]; omega
          · have b4 : (z.kind == 2) = false := by simp [hz2]
            have HRel := Lib.hid (HSk.out (by rw [HHit.out, HKD.out, decide_eq_false hz2, Bool.and_false]))
            clear ha hz2
            go_upto_region 7 with fail
            go_quiet (fail)
            go_wp2_with fail
            go_roundw
            case rel => exact HRel.out _
            case measure => simp [intOf]; omega
        · have b2 : (y.at_ == (j : Int)) = false := by simp [ha]
          have HRel := Lib.hid (HSk.out (by rw [HHit.out, b2]; rfl))
          clear ha
          go_upto_region 7 with fail
          go_quiet (fail)
          go_wp2_with fail
          go_roundw
          case rel => exact HRel.out _
          case measure => simp [intOf]; omega
      · have d1 : decide ((k : Int) < (L.length : Int)) = false := decide_eq_false (by omega)
        have HT2 := Lib.hid (show l = T from by
          have := HT.out
          rw [List.drop_eq_nil_of_le (by omega), lcnt, Int.add_zero] at this
          exact this)
        go_wp2_with (first
          | (refine wpList_load_row rfl 62 (.tmp 5) rfl nb rfl 62 (nodeCs x l).toArray (0, 0) _ HBr.out Tryz.underlying62 rfl (by rw [sizeKnown]; rfl) ?_)
          | (refine wpList_store_row rfl 62 (.tmp 4) (.tmp 71) rfl (w.heap.size + 1) (nodeCs x l).toArray rfl rfl 62 zeroCells HZr.out (by rw [sizeKnown]; rfl) rfl (nodeCs_one x l) ?_))
        refine bodyPost_ret (v := .agg (nodeCs x l).toArray) ?_ rfl ⟨?_, ?_⟩
        · exact results_cell_row Tryz.results49 _ _ (w.heap.size + 1) _ _ _ _ rfl (setRow_heap _ _ _ _ _ _ HZr.out) Tryz.underlying62 rfl (by rw [sizeKnown]; rfl)
        · rw [HT2.out]
        · exact (but_setRow HZr.out _).below HFr.out.below (by omega) HFr.out.below.size
  · have e2 : (x.kind == 2) = false := by simp [hk]
    have e3 : (x.kind != 2) = true := by simp [hk]
    have HK := Lib.hid (show D = false from HD.out ▸ decide_eq_false hk)
    have HB3 := Lib.hid (show w3.heap[nb]? = some (.cells (nodeCs x 0).toArray 62 (0, 0)) from HN3.out)
    have HA := Lib.hid (show 0 + lcnt (kindsM M) D (j : Int) L = T from by rw [← HT0.out, if_neg hk])
    clear hk
    go_wp2_with fail
    go_loopw [6] (NodeRel M L ⟨.slice (some ⟨gn, 0, none⟩) M.length cn, .slice al L.length cl, .slice (some ⟨gc, 0, none⟩) M.length cc, .slice (some ⟨gd, 0, none⟩) M.length cd, .slice (some ⟨ga, 0, none⟩) M.length ca, .slice af (devL M 0).length cf⟩ x D j T w nb) (fun v _ => L.length - (intOf v).toNat)
    case atStart => exact ⟨0, 0, Nat.zero_le _, rfl, ⟨by decide, by decide⟩, HA, HF3, HB3, HZ3⟩
    case round =>
      obtain ⟨k, l, hk, rfl, hl, HT, HFr, HBr, HZr⟩ := hrel
      clear s0 s1 s2 s3 s4 s5 p2 p8 f8
      obtain ⟨s0, s1, s2, s3, s4, s5⟩ := HFr.out.cells
      have p2 : wr.cell? ⟨nb, 2, none⟩ = some (.int .i64 x.kind) := by rw [cell_of_row _ _ _ _ _ _ HBr.out]; rfl
      have p8 : wr.cell? ⟨nb, 8, none⟩ = some (.int .i64 l) := by rw [cell_of_row _ _ _ _ _ _ HBr.out]; rfl
      have f8 : wr.frozen? ⟨nb, 8, none⟩ = false := frozen_of_row _ _ _ _ _ HBr.out
      by_cases hlt : k < L.length
      · have d1 : decide ((k : Int) < (L.length : Int)) = true := decide_eq_true (by omega)
        obtain ⟨y, hy⟩ : ∃ y, L[k]? = some y := ⟨_, List.getElem?_eq_getElem hlt⟩
        obtain ⟨gl, rfl, m1, m2, m3⟩ := (HH.out.keep HFr.out.below).item_cell hy
        have HHit := Lib.hid (show hitB (kindsM M) D (j : Int) y = (y.id == (j : Int)) from by unfold hitB; rw [HK.out]; rfl)
        have HMo := Lib.hid (NodeRel.more hy hl HT.out HFr.out HBr.out HZr.out (hnb := HNB.out))
        have HSk := Lib.hid (NodeRel.skip hy hl HT.out HFr.out HBr.out HZr.out)
        clear hy
        by_cases ha : y.id = (j : Int)
        · have b2 : (y.id == (j : Int)) = true := by simp [ha]
          have HRel := Lib.hid (HMo.out (by rw [HHit.out, b2]))
          clear ha
          go_upto_region 7 with fail
          go_quiet (fail)
          have c8 : (wr.drewN nq).cell? ⟨nb, 8, none⟩ = some (.int .i64 l) := p8
          have g8 : (wr.drewN nq).frozen? ⟨nb, 8, none⟩ = false := f8
          go_wp2_with fail
          go_roundw
          case rel => exact HRel.out _
          case measure => simp [intOf]; omega
        · have b2 : (y.id == (j : Int)) = false := by simp [ha]
          have HRel := Lib.hid (HSk.out (by rw [HHit.out, b2]))
          clear ha
          go_upto_region 7 with fail
          go_quiet (fail)
          go_wp2_with fail
          go_roundw
          case rel => exact HRel.out _
          case measure => simp [intOf]; omega
      · have d1 : decide ((k : Int) < (L.length : Int)) = false := decide_eq_false (by omega)
        have HT2 := Lib.hid (show l = T from by
          have := HT.out
          rw [List.drop_eq_nil_of_le (by omega), lcnt, Int.add_zero] at this
          exact this)
        go_wp2_with (first
          | (refine wpList_load_row rfl 62 (.tmp 5) rfl nb rfl 62 (nodeCs x l).toArray (0, 0) _ HBr.out Tryz.underlying62 rfl (by rw [sizeKnown]; rfl) ?_)
          | (refine wpList_store_row rfl 62 (.tmp 4) (.tmp 71) rfl (w.heap.size + 1) (nodeCs x l).toArray rfl rfl 62 zeroCells HZr.out (by rw [sizeKnown]; rfl) rfl (nodeCs_one x l) ?_))
        refine bodyPost_ret (v := .agg (nodeCs x l).toArray) ?_ rfl ⟨?_, ?_⟩
        · exact results_cell_row Tryz.results49 _ _ (w.heap.size + 1) _ _ _ _ rfl (setRow_heap _ _ _ _ _ _ HZr.out) Tryz.underlying62 rfl (by rw [sizeKnown]; rfl)
        · rw [HT2.out]
        · exact (but_setRow HZr.out _).below HFr.out.below (by omega) HFr.out.below.size
end Go.Proofs.YtigkdehaepenhaaGreatDoor.V
