/-
  A node's links are what is counted over the entries: of the nodes that changes have made, and of the reference's list of entries. Conditions: none.
-/
import Derived.Test.YtemjlamgnkjejaaVTwin
set_option linter.unusedVariables false
namespace Go.Proofs.Ytemjlamgnkjejaa
open Go.RowKit

/-- Is the node of that number a directory? -/
def kdir (K : List Int) (id : Int) : Bool := K[id.toNat]? == some 2
def kindsM (M : List Nd) : List Int := M.map fun n => n.kind
def dirsIn (K : List Int) : List (ByteArray × Int) → Int
  | [] => 0
  | e :: r => (if kdir K e.2 = true then 1 else 0) + dirsIn K r
def cntId (id : Int) : List (ByteArray × Int) → Int
  | [] => 0
  | e :: r => (if e.2 = id then 1 else 0) + cntId id r
def refs (id : Int) : List Nd → Int
  | [] => 0
  | n :: r => cntId id n.ents + refs id r
/-- Each entry is of a node that there is; links are counted. -/
structure LInv (M : List Nd) : Prop where
  id : ∀ n ∈ M, ∀ e ∈ n.ents, 0 ≤ e.2 ∧ e.2 < (M.length : Int)
  links : ∀ (i : Nat) (x : Nd), M[i]? = some x → x.links = if x.kind = 2 then 2 + dirsIn (kindsM M) x.ents else refs (i : Int) M

theorem dirsIn_snoc (K : List Int) (s : ByteArray) (j : Int) : ∀ l, dirsIn K (l ++ [(s, j)]) = dirsIn K l + if kdir K j = true then 1 else 0
  | [] => by simp [dirsIn]
  | e :: r => by rw [List.cons_append, dirsIn, dirsIn, dirsIn_snoc K s j r]; omega
theorem cntId_snoc (id : Int) (s : ByteArray) (j : Int) : ∀ l, cntId id (l ++ [(s, j)]) = cntId id l + if j = id then 1 else 0
  | [] => by simp [cntId]
  | e :: r => by rw [List.cons_append, cntId, cntId, cntId_snoc id s j r]; omega
theorem kdir_app {K : List Int} {k j : Int} (h0 : 0 ≤ j) (h1 : j < (K.length : Int)) : kdir (K ++ [k]) j = kdir K j := by
  unfold kdir
  rw [List.getElem?_append_left (by omega)]
theorem dirsIn_app {K : List Int} {k : Int} : ∀ l : List (ByteArray × Int), (∀ e ∈ l, 0 ≤ e.2 ∧ e.2 < (K.length : Int)) → dirsIn (K ++ [k]) l = dirsIn K l
  | [], _ => rfl
  | e :: r, h => by
    rw [dirsIn, dirsIn, dirsIn_app r (fun x hx => h x (List.mem_cons_of_mem _ hx)), kdir_app (h e List.mem_cons_self).1 (h e List.mem_cons_self).2]
theorem refs_append (id : Int) : ∀ a b, refs id (a ++ b) = refs id a + refs id b
  | [], b => by simp [refs]
  | x :: r, b => by rw [List.cons_append, refs, refs, refs_append id r b]; omega
theorem refs_ent (id : Int) (s : ByteArray) (j : Int) : ∀ (M : List Nd) (i : Nat), i < M.length → refs id (M.modify i (addEnt s j)) = refs id M + if j = id then 1 else 0
  | [], i, h => by simp at h
  | n :: r, 0, h => by
    rw [List.modify_zero_cons, refs, refs]
    show cntId id (n.ents ++ [(s, j)]) + refs id r = _
    rw [cntId_snoc]
    omega
  | n :: r, i + 1, h => by
    rw [List.modify_succ_cons, refs, refs, refs_ent id s j r i (by simpa using h)]
    omega
theorem refs_same (id : Int) {f : Nd → Nd} (hf : ∀ n, (f n).ents = n.ents) : ∀ (M : List Nd) (i : Nat), refs id (M.modify i f) = refs id M
  | [], i => by simp
  | n :: r, 0 => by rw [List.modify_zero_cons, refs, refs, hf]
  | n :: r, i + 1 => by rw [List.modify_succ_cons, refs, refs, refs_same id hf r i]
theorem cntId_none (id : Int) : ∀ l : List (ByteArray × Int), (∀ e ∈ l, e.2 ≠ id) → cntId id l = 0
  | [], _ => rfl
  | e :: r, h => by rw [cntId, if_neg (h e List.mem_cons_self), cntId_none id r (fun x hx => h x (List.mem_cons_of_mem _ hx))]; rfl
theorem refs_none (id : Int) : ∀ M : List Nd, (∀ n ∈ M, ∀ e ∈ n.ents, e.2 ≠ id) → refs id M = 0
  | [], _ => rfl
  | n :: r, h => by rw [refs, cntId_none id n.ents (h n List.mem_cons_self), refs_none id r (fun x hx => h x (List.mem_cons_of_mem _ hx))]; rfl
theorem kinds_modify {f : Nd → Nd} (hf : ∀ n, (f n).kind = n.kind) : ∀ (M : List Nd) (i : Nat), kindsM (M.modify i f) = kindsM M
  | [], i => by simp
  | n :: r, 0 => by rw [List.modify_zero_cons]; show (f n).kind :: kindsM r = n.kind :: kindsM r; rw [hf]
  | n :: r, i + 1 => by rw [List.modify_succ_cons]; show n.kind :: kindsM (r.modify i f) = n.kind :: kindsM r; rw [kinds_modify hf r i]
theorem kinds_app (M : List Nd) (x : Nd) : kindsM (M ++ [x]) = kindsM M ++ [x.kind] := by unfold kindsM; rw [List.map_append]; rfl
theorem kinds_len (M : List Nd) : (kindsM M).length = M.length := by unfold kindsM; rw [List.length_map]
theorem kdir_at {M : List Nd} {i : Nat} {x : Nd} (h : M[i]? = some x) : kdir (kindsM M) (i : Int) = decide (x.kind = 2) := by
  unfold kdir kindsM
  rw [Int.toNat_natCast, List.getElem?_map, h]
  show (some x.kind == some 2) = _
  by_cases e : x.kind = 2
  · rw [e]; rfl
  · rw [decide_eq_false e]; simpa using e

theorem LInv.app {M : List Nd} {x : Nd} (H : LInv M) (he : x.ents = []) (hl : x.links = if x.kind = 2 then 2 else 0) : LInv (M ++ [x]) := by
  refine ⟨fun n hn e hee => ?_, fun i y hy => ?_⟩
  · rcases List.mem_append.1 hn with q | q
    · have := H.id n q e hee
      rw [List.length_append]
      exact ⟨this.1, by have := this.2; simp; omega⟩
    · obtain rfl : n = x := by simpa using q
      rw [he] at hee
      cases hee
  · rw [kinds_app, refs_append]
    have hx : refs (i : Int) [x] = 0 := by rw [refs, refs, he]; rfl
    rw [hx]
    by_cases hi : i < M.length
    · rw [List.getElem?_append_left hi] at hy
      have hm := List.mem_of_getElem? hy
      rw [dirsIn_app y.ents (fun e h => by rw [kinds_len]; exact H.id y hm e h), H.links i y hy, Int.add_zero]
    · rw [List.getElem?_append_right (by omega)] at hy
      have h0 : i - M.length = 0 := by
        have := (List.getElem?_eq_some_iff.1 hy).1
        simp at this
        omega
      rw [h0] at hy
      obtain rfl : x = y := by simpa using hy
      rw [he, hl, refs_none (i : Int) M (fun n hn e hee => by have := (H.id n hn e hee).2; omega)]
      rfl
theorem mem_modify {M : List Nd} {i : Nat} {f : Nd → Nd} {n : Nd} (h : n ∈ M.modify i f) : n ∈ M ∨ ∃ x, M[i]? = some x ∧ n = f x := by
  obtain ⟨j, hj⟩ := List.mem_iff_getElem?.1 h
  rw [List.getElem?_modify] at hj
  cases hm : M[j]? with
  | none => rw [hm] at hj; cases hj
  | some x =>
    rw [hm] at hj
    have e : (if i = j then f x else x) = n := Option.some.inj hj
    split at e
    · rename_i q
      subst q
      exact .inr ⟨x, hm, e.symm⟩
    · exact .inl (e ▸ List.mem_of_getElem? hm)
theorem LInv.same {M : List Nd} {i : Nat} {f : Nd → Nd} (H : LInv M) (hf : ∀ n, (f n).links = n.links ∧ (f n).ents = n.ents ∧ (f n).kind = n.kind) : LInv (M.modify i f) := by
  refine ⟨fun n hn e he => ?_, fun k y hy => ?_⟩
  · rw [List.length_modify]
    rcases mem_modify hn with q | ⟨x, hx, rfl⟩
    · exact H.id n q e he
    · rw [(hf x).2.1] at he
      exact H.id x (List.mem_of_getElem? hx) e he
  · rw [kinds_modify (fun n => (hf n).2.2), refs_same _ (fun n => (hf n).2.1)]
    rw [List.getElem?_modify] at hy
    cases hm : M[k]? with
    | none => rw [hm] at hy; cases hy
    | some x =>
      rw [hm] at hy
      have e : (if i = k then f x else x) = y := Option.some.inj hy
      have := H.links k x hm
      rw [← e]
      split
      · rw [(hf x).1, (hf x).2.1, (hf x).2.2]; exact this
      · exact this
/-- An entry more in a directory: what counts it has a link more. -/
theorem LInv.enter {M : List Nd} {i j : Nat} {s : ByteArray} {d : Nd} (H : LInv M) (hd : M[i]? = some d) (hk : d.kind = 2) (hj : j < M.length) {t : Nat} (ht : t = if kdir (kindsM M) (j : Int) = true then i else j) : LInv ((M.modify i (addEnt s (j : Int))).modify t moreLinks) := by
  have hi := (List.getElem?_eq_some_iff.1 hd).1
  refine ⟨fun n hn e he => ?_, fun k y hy => ?_⟩
  · rw [List.length_modify, List.length_modify]
    have base : ∀ n ∈ M.modify i (addEnt s (j : Int)), ∀ e ∈ n.ents, 0 ≤ e.2 ∧ e.2 < (M.length : Int) := fun n hn e he => by
      rcases mem_modify hn with q | ⟨x, hx, rfl⟩
      · exact H.id n q e he
      · have he : e ∈ x.ents ++ [(s, (j : Int))] := he
        rcases List.mem_append.1 he with q | q
        · exact H.id x (List.mem_of_getElem? hx) e q
        · obtain rfl : e = (s, (j : Int)) := by simpa using q
          exact ⟨by omega, by omega⟩
    rcases mem_modify hn with q | ⟨x, hx, rfl⟩
    · exact base n q e he
    · exact base x (List.mem_of_getElem? hx) e he
  · rw [kinds_modify (f := moreLinks) (fun n => rfl), kinds_modify (f := addEnt s (j : Int)) (fun n => rfl), refs_same (f := moreLinks) _ (fun n => rfl), refs_ent _ _ _ _ _ hi]
    rw [List.getElem?_modify, List.getElem?_modify] at hy
    cases hm : M[k]? with
    | none => rw [hm] at hy; cases hy
    | some x =>
      rw [hm] at hy
      have e : (if t = k then moreLinks (if i = k then addEnt s (j : Int) x else x) else (if i = k then addEnt s (j : Int) x else x)) = y := Option.some.inj hy
      have h0 := H.links k x hm
      have e1 : y.links = x.links + if t = k then 1 else 0 := by
        rw [← e]
        split
        · split <;> rfl
        · split <;> exact (Int.add_zero _).symm
      have e2 : y.kind = x.kind := by rw [← e]; split <;> split <;> rfl
      have e3 : dirsIn (kindsM M) y.ents = dirsIn (kindsM M) x.ents + if i = k ∧ kdir (kindsM M) (j : Int) = true then 1 else 0 := by
        have : y.ents = if i = k then x.ents ++ [(s, (j : Int))] else x.ents := by rw [← e]; split <;> split <;> rfl
        rw [this]
        by_cases q : i = k
        · rw [if_pos q, dirsIn_snoc]
          by_cases q2 : kdir (kindsM M) (j : Int) = true
          · rw [if_pos q2, if_pos ⟨q, q2⟩]
          · rw [if_neg q2, if_neg (fun z => q2 z.2)]
        · rw [if_neg q, if_neg (fun z => q z.1), Int.add_zero]
      rw [e1, e2, e3, h0]
      have hjx : ∀ z, M[j]? = some z → kdir (kindsM M) (j : Int) = decide (z.kind = 2) := fun z hz => kdir_at hz
      by_cases hx2 : x.kind = 2
      · rw [if_pos hx2, if_pos hx2]
        have : (if t = k then (1 : Int) else 0) = if i = k ∧ kdir (kindsM M) (j : Int) = true then 1 else 0 := by
          by_cases q2 : kdir (kindsM M) (j : Int) = true
          · rw [if_pos q2] at ht
            subst ht
            by_cases q : t = k
            · rw [if_pos q, if_pos ⟨q, q2⟩]
            · rw [if_neg q, if_neg (fun z => q z.1)]
          · rw [if_neg q2] at ht
            subst ht
            have h1 : ¬ t = k := fun q => by
              subst q
              rw [hjx x hm, hx2] at q2
              exact q2 rfl
            rw [if_neg h1, if_neg (fun z => q2 z.2)]
        rw [this]
        omega
      · rw [if_neg hx2, if_neg hx2]
        have : (if t = k then (1 : Int) else 0) = if (j : Int) = (k : Int) then 1 else 0 := by
          by_cases q2 : kdir (kindsM M) (j : Int) = true
          · rw [if_pos q2] at ht
            subst ht
            have h1 : ¬ t = k := fun q => by
              subst q
              rw [hd] at hm
              exact hx2 (Option.some.inj hm ▸ hk)
            have h2 : ¬ (j : Int) = (k : Int) := fun q => by
              obtain rfl : j = k := by omega
              rw [hjx x hm] at q2
              exact hx2 (of_decide_eq_true q2)
            rw [if_neg h1, if_neg h2]
          · rw [if_neg q2] at ht
            subst ht
            by_cases q : t = k
            · rw [if_pos q, if_pos (by omega)]
            · rw [if_neg q, if_neg (by omega)]
        rw [this]

theorem wrong_at {M : List Nd} {c : Chg} (h : wrongM M c = 0) (k0 : 0 ≤ c.kind) (k3 : c.kind < 4) : ∃ x, atM M c.at_ = some x ∧ x.kind = 2 := by
  unfold wrongM refuseE at h
  split at h
  · cases h
  · rename_i hno
    unfold baseE at h
    rw [if_pos ⟨k0, by omega⟩] at h
    unfold entryE at h
    cases hx : atM M c.at_ with
    | none => rw [hx] at h; cases h
    | some x =>
      rw [hx] at h
      dsimp only at h
      split at h
      · rename_i q; exact ⟨x, rfl, q⟩
      · cases h
theorem setNd_kind (c : Chg) (n : Nd) : (setNd c n).kind = n.kind := by
  unfold setNd
  repeat' split
  all_goals rfl
theorem LInv.built {M : List Nd} {i : Nat} {s : ByteArray} {n x : Nd} {d : Int} (H : LInv M) (hx : M[i]? = some x) (hk : x.kind = 2) (he : n.ents = []) (hl : n.links = if n.kind = 2 then 2 else 0) : LInv (builtM M i s n d) := by
  unfold builtM
  have h1 : LInv (M ++ [addedNd n d M]) := H.app he hl
  have hi := (List.getElem?_eq_some_iff.1 hx).1
  refine h1.enter (i := i) (j := M.length) (d := x) (by rw [List.getElem?_append_left hi]; exact hx) hk (by simp) ?_
  have : kdir (kindsM (M ++ [addedNd n d M])) (M.length : Int) = decide ((addedNd n d M).kind = 2) := kdir_at (app_last _ _)
  rw [show (addedNd n d M).kind = n.kind from rfl] at this
  rw [this]
  by_cases q : n.kind = 2
  · rw [if_pos q, if_pos (decide_eq_true q)]
  · rw [if_neg q, if_neg (by simpa using q)]
theorem LInv.do_ {M : List Nd} {c : Chg} (H : LInv M) : LInv (doM M c) := by
  unfold doM
  split
  · rename_i hw
    unfold carryM
    have hat : ∀ (_ : 0 ≤ c.kind) (_ : c.kind < 4), ∃ x, M[c.at_.toNat]? = some x ∧ x.kind = 2 := fun k0 k3 => by
      obtain ⟨x, hx, hk⟩ := wrong_at hw k0 k3
      obtain ⟨i, hi, hxi⟩ := atM_some hx
      exact ⟨x, by rw [hi, Int.toNat_natCast]; exact hxi, hk⟩
    split
    · obtain ⟨x, hx, hk⟩ := hat (by omega) (by omega)
      exact H.built hx hk rfl rfl
    · split
      · obtain ⟨x, hx, hk⟩ := hat (by omega) (by omega)
        exact H.built hx hk rfl rfl
      · split
        · rename_i k2
          obtain ⟨x, hx, hk⟩ := hat (by omega) (by omega)
          rcases wrong_cases hw with ⟨_, _, q, _⟩ | ⟨_, x', y, _, hy, hyk⟩ | ⟨q, _⟩ | ⟨q, _⟩
          · omega
          · obtain ⟨j, hj, hyj⟩ := atM_some hy
            have hy' : (atM M c.to).elim 0 (·.kind) = y.kind := by rw [hy]; rfl
            rw [if_neg (by rw [hy']; exact hyk), hj, Int.toNat_natCast]
            refine H.enter hx hk (List.getElem?_eq_some_iff.1 hyj).1 ?_
            rw [kdir_at hyj, decide_eq_false hyk]
            rfl
          · omega
          · omega
        · split
          · obtain ⟨x, hx, hk⟩ := hat (by omega) (by omega)
            exact H.built hx hk rfl rfl
          · split
            · exact (H.app (x := addedNd (dirNd (c.a % 4096) ((atM M c.to).elim 0 (·.up))) (((devL M 0).length : Int) + 1) M) rfl rfl).same (fun n => ⟨rfl, rfl, rfl⟩)
            · exact H.same (fun n => ⟨(setNd_few c n).1, (setNd_few c n).2, setNd_kind c n⟩)
  · exact H
theorem linv_new : LInv newM := by
  refine ⟨fun n hn e he => ?_, fun i x hx => ?_⟩
  · obtain rfl : n = addedNd (dirNd 493 0) 1 [] := by simpa [newM] using hn
    cases he
  · have : i = 0 := by
      have := (List.getElem?_eq_some_iff.1 hx).1
      simp [newM] at this
      exact this
    subst this
    obtain rfl : addedNd (dirNd 493 0) 1 [] = x := by simpa [newM] using hx
    rfl
theorem runM_linv : ∀ (cs : List Chg) (M : List Nd), LInv M → LInv (runM cs M)
  | [], M, h => h
  | c :: r, M, h => runM_linv r (doM M c) h.do_

/-- What the reference counts over its entries. -/
def hitB (K : List Int) (d : Bool) (i : Int) (e : It) : Bool := if d = true then e.at_ == i && kdir K e.id else e.id == i
def lcnt (K : List Int) (d : Bool) (i : Int) : List It → Int
  | [] => 0
  | e :: r => (if hitB K d i e = true then 1 else 0) + lcnt K d i r
def entsL (L : List It) (i : Int) : List (ByteArray × Int) := (L.filter fun e => e.at_ == i).map fun e => (e.name, e.id)
theorem entsL_cons (e : It) (r : List It) (i : Int) : entsL (e :: r) i = if e.at_ = i then (e.name, e.id) :: entsL r i else entsL r i := by
  unfold entsL
  rw [List.filter_cons]
  by_cases h : e.at_ = i
  · rw [if_pos h, if_pos (by simpa using h)]; rfl
  · rw [if_neg h, if_neg (by simpa using h)]
theorem lcnt_dir (K : List Int) (i : Int) : ∀ L, lcnt K true i L = dirsIn K (entsL L i)
  | [] => rfl
  | e :: r => by
    rw [lcnt, lcnt_dir K i r, entsL_cons]
    unfold hitB
    rw [if_pos rfl]
    by_cases h : e.at_ = i
    · rw [if_pos h, dirsIn, h]
      simp
    · have : (e.at_ == i) = false := by simpa using h
      rw [if_neg h, this]
      simp
def sumN : Nat → (Nat → Int) → Int
  | 0, _ => 0
  | n + 1, g => g 0 + sumN n (fun k => g (k + 1))
theorem sumN_zero : ∀ n, sumN n (fun _ => 0) = 0
  | 0 => rfl
  | n + 1 => by rw [sumN, sumN_zero n]; rfl
theorem sumN_add : ∀ (n : Nat) (f g : Nat → Int), sumN n (fun k => f k + g k) = sumN n f + sumN n g
  | 0, f, g => rfl
  | n + 1, f, g => by rw [sumN, sumN, sumN, sumN_add n]; omega
theorem sumN_one (c : Int) : ∀ (n a : Nat), a < n → sumN n (fun k => if a = k then c else 0) = c
  | 0, a, h => by omega
  | n + 1, 0, h => by
    rw [sumN, if_pos rfl]
    have : (fun k => if 0 = k + 1 then c else 0) = fun _ : Nat => (0 : Int) := funext fun k => if_neg (by omega)
    rw [this, sumN_zero]
    omega
  | n + 1, a + 1, h => by
    rw [sumN, if_neg (by omega)]
    have : (fun k => if a + 1 = k + 1 then c else 0) = fun k : Nat => if a = k then c else (0 : Int) := funext fun k => by
      by_cases q : a = k
      · rw [if_pos q, if_pos (by omega)]
      · rw [if_neg q, if_neg (by omega)]
    rw [this, sumN_one c n a (by omega)]
    omega
theorem refs_sum (id : Int) : ∀ (M : List Nd) (g : Nat → Int), (∀ k x, M[k]? = some x → cntId id x.ents = g k) → refs id M = sumN M.length g
  | [], g, _ => rfl
  | n :: r, g, h => by
    rw [refs, h 0 n rfl, refs_sum id r (fun k => g (k + 1)) (fun k x hx => h (k + 1) x (by simpa using hx))]
    rfl
theorem lcnt_sum (K : List Int) (i : Int) (n : Nat) : ∀ L : List It, (∀ e ∈ L, 0 ≤ e.at_ ∧ e.at_ < (n : Int)) → lcnt K false i L = sumN n (fun k => cntId i (entsL L (k : Int)))
  | [], _ => by
    have : (fun k : Nat => cntId i (entsL [] (k : Int))) = fun _ => (0 : Int) := funext fun k => rfl
    rw [this, sumN_zero]
    rfl
  | e :: r, h => by
    have h0 := h e List.mem_cons_self
    have : (fun k : Nat => cntId i (entsL (e :: r) (k : Int))) = fun k : Nat => (if e.at_.toNat = k then (if e.id = i then 1 else 0) else 0) + cntId i (entsL r (k : Int)) := funext fun k => by
      rw [entsL_cons]
      by_cases q : e.at_ = (k : Int)
      · rw [if_pos q, if_pos (by omega), cntId]
      · rw [if_neg q, if_neg (by omega), Int.zero_add]
    rw [lcnt, lcnt_sum K i n r (fun x hx => h x (List.mem_cons_of_mem _ hx)), this, sumN_add, sumN_one _ n _ (by omega)]
    have hh : hitB K false i e = (e.id == i) := rfl
    rw [hh]
    by_cases q : e.id = i
    · rw [if_pos q, if_pos (by simpa using q)]
    · rw [if_neg q, if_neg (by simpa using q)]
/-- The links of a node are what the reference counts. -/
theorem links_counted {M : List Nd} {L : List It} {i : Nat} {x : Nd} (H : LInv M) (R : Rel M L) (hx : M[i]? = some x) : x.links = (if x.kind = 2 then 2 else 0) + lcnt (kindsM M) (decide (x.kind = 2)) (i : Int) L := by
  rw [H.links i x hx]
  by_cases h2 : x.kind = 2
  · rw [if_pos h2, if_pos h2, decide_eq_true h2, lcnt_dir, R.ents i x hx]
    rfl
  · rw [if_neg h2, if_neg h2, decide_eq_false h2, lcnt_sum _ _ M.length L (fun e he => R.at_ e he), Int.zero_add]
    exact refs_sum _ _ _ (fun k y hy => by rw [R.ents k y hy]; rfl)
end Go.Proofs.Ytemjlamgnkjejaa
