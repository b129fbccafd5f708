/-
  What two points behind a path, more slashes, and points between come to in the model's walk. Conditions: each fact's own.
-/
import Derived.Test.YtjdcoaiklpkedaaDoorHWalkM
import Derived.Test.YtjdcoaiklpkedaaDoorVDevM
set_option linter.unusedVariables false
namespace Go.Proofs.YtjdcoaiklpkedaaDoor
open Go.RowKit

def spl : List UInt8 → List UInt8 → List (List UInt8)
  | cur, [] => if cur = [] then [] else [cur]
  | cur, b :: l => if b = 47 then (if cur = [] then spl [] l else cur :: spl [] l) else spl (cur ++ [b]) l
def mkB (l : List UInt8) : ByteArray := ⟨l.toArray⟩
theorem spl_app : ∀ (l cur r : List UInt8), spl cur (l ++ 47 :: r) = spl cur l ++ spl [] r
  | [], cur, r => by
    show (if (47 : UInt8) = 47 then (if cur = [] then spl [] r else cur :: spl [] r) else spl (cur ++ [47]) r) = (if cur = [] then [] else [cur]) ++ spl [] r
    rw [if_pos rfl]
    split <;> rfl
  | b :: l, cur, r => by
    show (if b = 47 then (if cur = [] then spl [] (l ++ 47 :: r) else cur :: spl [] (l ++ 47 :: r)) else spl (cur ++ [b]) (l ++ 47 :: r)) = (if b = 47 then (if cur = [] then spl [] l else cur :: spl [] l) else spl (cur ++ [b]) l) ++ spl [] r
    split
    · split
      · exact spl_app l [] r
      · rw [spl_app l [] r]; rfl
    · exact spl_app l _ r
def seg (l : List UInt8) (a b : Nat) : List UInt8 := (l.drop a).take (b - a)
theorem ext_seg (s : ByteArray) (a b : Nat) (hab : a ≤ b) (hb : b ≤ s.size) : s.extract a b = mkB (seg s.data.toList a b) := by
  apply ByteArray.ext
  rw [ByteArray.data_extract]
  unfold mkB seg
  apply Array.toList_inj.1
  rw [Array.toList_extract, List.extract_eq_take_drop]
theorem seg_snoc {l : List UInt8} {a i : Nat} {b : UInt8} (ha : a ≤ i) (h : l[i]? = some b) : seg l a (i + 1) = seg l a i ++ [b] := by
  unfold seg
  rw [show i + 1 - a = (i - a) + 1 by omega, List.take_add_one, List.getElem?_drop, show a + (i - a) = i by omega, h]
  rfl
theorem seg_len {l : List UInt8} {a i : Nat} (hi : i ≤ l.length) : (seg l a i).length = i - a := by
  unfold seg
  rw [List.length_take, List.length_drop]
  omega
theorem sl_at {s : ByteArray} {i : Nat} {b : UInt8} (h : s.data.toList[i]? = some b) : sl s i = (b == 47) := by
  unfold sl
  have hi : i < s.size := by have := (List.getElem?_eq_some_iff.1 h).1; simpa using this
  have e : s.get! i = b := by
    have h2 : s.data.toList[i]? = some (s[i]'hi) := Lib.data_getElem? s i hi
    rw [h] at h2
    have h3 : s.get! i = s[i]'hi := by simp [ByteArray.get!, hi]; rfl
    rw [h3]
    exact (Option.some.inj h2).symm
  rw [e, Bool.eq_iff_iff, beq_iff_eq, beq_iff_eq]
  constructor
  · intro q
    apply UInt8.toNat_inj.1
    exact q
  · intro q
    rw [q]
    rfl
theorem nm_spl (s : ByteArray) : ∀ i, i ≤ s.size → ((nmGo s i).1.map fun x => s.extract x.1 x.2) ++ (spl (seg s.data.toList (nmGo s i).2 i) (s.data.toList.drop i)).map mkB = (spl [] s.data.toList).map mkB
  | 0, _ => by
    show [] ++ (spl (seg s.data.toList 0 0) (s.data.toList.drop 0)).map mkB = _
    simp [seg]
  | i + 1, h => by
    have ih := nm_spl s i (by omega)
    have hn := nmGo_le s i
    have hl : s.data.toList.length = s.size := by simp
    obtain ⟨b, hb⟩ : ∃ b, s.data.toList[i]? = some b := ⟨_, List.getElem?_eq_getElem (by omega)⟩
    have hd : s.data.toList.drop i = b :: s.data.toList.drop (i + 1) := by
      rw [List.drop_eq_getElem_cons (by omega)]
      congr 1
      have h2 := List.getElem?_eq_getElem (l := s.data.toList) (i := i) (by omega)
      rw [hb] at h2
      exact (Option.some.inj h2).symm
    rw [hd] at ih
    rw [nmGo, nmStep]
    generalize nmGo s i = x at ih hn ⊢
    obtain ⟨acc, fr⟩ := x
    have hn : fr ≤ i := hn
    have hsl := sl_at hb
    have hsg := seg_len (l := s.data.toList) (a := fr) (i := i) (by omega)
    by_cases q : b = 47
    · rw [if_pos (.inr (by rw [hsl, q]; rfl))]
      rw [spl, if_pos q] at ih
      have e0 : seg s.data.toList (i + 1) (i + 1) = [] := by unfold seg; simp
      show ((if fr < i then acc ++ [(fr, i)] else acc).map fun x => s.extract x.1 x.2) ++ (spl (seg s.data.toList (i + 1) (i + 1)) _).map mkB = _
      rw [e0]
      by_cases hf : fr < i
      · rw [if_neg (by intro e; rw [e] at hsg; simp at hsg; omega)] at ih
        rw [if_pos hf, List.map_append, ← ih, List.append_assoc]
        show _ ++ ([s.extract fr i] ++ _) = _
        rw [ext_seg s fr i hn (by omega)]
        rfl
      · rw [if_pos (by apply List.eq_nil_of_length_eq_zero; show (seg s.data.toList fr i).length = 0; omega)] at ih
        rw [if_neg hf]
        exact ih
    · rw [if_neg (by rw [hsl]; intro e; rcases e with e | e; · omega
                     · exact q (by simpa using e))]
      rw [spl, if_neg q] at ih
      show (acc.map fun x => s.extract x.1 x.2) ++ (spl (seg s.data.toList fr (i + 1)) _).map mkB = _
      rw [seg_snoc hn hb]
      exact ih
/-- A path's names, by bytes. -/
theorem names_spl (s : ByteArray) : namesL s = (spl [] s.data.toList).map mkB := by
  have h := nm_spl s s.size (Nat.le_refl _)
  have hn := nmGo_le s s.size
  have hl : s.data.toList.length = s.size := by simp
  unfold namesL nmSpans
  rw [nmGo, nmStep, if_pos (.inl rfl)]
  generalize nmGo s s.size = x at h hn ⊢
  obtain ⟨acc, fr⟩ := x
  have hn : fr ≤ s.size := hn
  have hsg := seg_len (l := s.data.toList) (a := fr) (i := s.size) (by omega)
  have hd : s.data.toList.drop s.size = [] := List.drop_eq_nil_of_le (by omega)
  rw [hd, spl] at h
  show ((if fr < s.size then acc ++ [(fr, s.size)] else acc).map fun x => s.extract x.1 x.2) = _
  by_cases hf : fr < s.size
  · rw [if_neg (by intro e; rw [e] at hsg; simp at hsg; omega)] at h
    rw [if_pos hf, List.map_append, ← h]
    show _ ++ [s.extract fr s.size] = _
    rw [ext_seg s fr s.size hn (Nat.le_refl _)]
    rfl
  · rw [if_pos (by apply List.eq_nil_of_length_eq_zero; show (seg s.data.toList fr s.size).length = 0; omega)] at h
    rw [if_neg hf, ← h]
    simp

/-- What the ways upwards look at. -/
def core (n : Nd) : Int × Int × Int := (n.kind, n.up, n.over)
def kc (C : List (Int × Int × Int)) (j : Int) : Int := if 0 ≤ j ∧ j < (C.length : Int) then ((C[j.toNat]?).map (·.1)).getD 0 else 0
theorem kindM_core (M : List Nd) (j : Int) : kindM M j = kc (M.map core) j := by
  unfold kindM nvAt kc atM
  rw [List.length_map]
  by_cases h : 0 ≤ j ∧ j < (M.length : Int)
  · rw [if_pos h, if_pos h, List.getElem?_map]
    cases hm : M[j.toNat]? with
    | none => rfl
    | some n => rfl
  · rw [if_neg h, if_neg h]
    rfl
def DUc (C : List (Int × Int × Int)) : Prop := ∀ (i : Nat) (u o : Int), C[i]? = some (2, u, o) → kc C u = 2 ∧ kc C o = 2
theorem kc_app {C : List (Int × Int × Int)} (D : List (Int × Int × Int)) {j : Int} (h : kc C j = 2) : kc (C ++ D) j = 2 := by
  unfold kc at h ⊢
  by_cases q : 0 ≤ j ∧ j < (C.length : Int)
  · rw [if_pos q] at h
    rw [if_pos ⟨q.1, by rw [List.length_append]; omega⟩, List.getElem?_append_left (by omega)]
    exact h
  · rw [if_neg q] at h
    cases h
theorem kc_last (C : List (Int × Int × Int)) (x : Int × Int × Int) : kc (C ++ [x]) (C.length : Int) = x.1 := by
  unfold kc
  rw [if_pos ⟨by omega, by simp; omega⟩, Int.toNat_natCast, List.getElem?_append_right (Nat.le_refl _)]
  simp
theorem duc_app {C : List (Int × Int × Int)} {k u : Int} (h : DUc C) (hu : k = 2 → kc C u = 2) : DUc (C ++ [(k, u, (C.length : Int))]) := by
  intro i a o hi
  rw [List.getElem?_append] at hi
  split at hi
  · obtain ⟨h1, h2⟩ := h i a o hi
    exact ⟨kc_app _ h1, kc_app _ h2⟩
  · have : i - C.length = 0 := by
      apply Classical.byContradiction
      intro q
      rw [List.getElem?_eq_none (by simp; omega)] at hi
      cases hi
    rw [this] at hi
    simp at hi
    obtain ⟨rfl, rfl, rfl⟩ := hi
    exact ⟨kc_app _ (hu rfl), kc_last C _⟩
theorem kc_set (C : List (Int × Int × Int)) (i : Nat) (x : Int) (j : Int) : kc (C.modify i (fun t => (t.1, t.2.1, x))) j = kc C j := by
  unfold kc
  rw [List.length_modify]
  split
  · rw [List.getElem?_modify]
    cases hc : C[j.toNat]? with
    | none => rfl
    | some t =>
      by_cases q : i = j.toNat
      · simp [q]
      · simp [q]
  · rfl
theorem duc_set {C : List (Int × Int × Int)} {i : Nat} {x : Int} (h : DUc C) (hx : kc C x = 2) : DUc (C.modify i (fun t => (t.1, t.2.1, x))) := by
  intro k u o hk
  rw [kc_set, kc_set]
  rw [List.getElem?_modify] at hk
  cases hc : C[k]? with
  | none => rw [hc] at hk; cases hk
  | some t =>
    rw [hc] at hk
    obtain ⟨a, b, c⟩ := t
    by_cases q : i = k
    · simp [q] at hk
      obtain ⟨rfl, rfl, rfl⟩ := hk
      exact ⟨(h k b c hc).1, hx⟩
    · simp [q] at hk
      obtain ⟨rfl, rfl, rfl⟩ := hk
      exact h k b c hc
def DU (M : List Nd) : Prop := DUc (M.map core)
theorem core_mod {M : List Nd} {i : Nat} {f : Nd → Nd} (hf : ∀ n, core (f n) = core n) : (M.modify i f).map core = M.map core := by
  apply List.ext_getElem?
  intro j
  rw [List.getElem?_map, List.getElem?_map, List.getElem?_modify]
  cases M[j]? with
  | none => rfl
  | some x =>
    show Option.map core (some (if i = j then f x else x)) = _
    split
    · show some (core (f x)) = _; rw [hf]; rfl
    · rfl
theorem core_app (M : List Nd) (n : Nd) : (M ++ [n]).map core = M.map core ++ [core n] := by rw [List.map_append]; rfl
theorem setNd_core (c : Chg) (n : Nd) : core (setNd c n) = core n := by
  unfold setNd
  repeat' split
  all_goals rfl
theorem refuse_dir {M : Int → Option Nd} {len : Nat} {c : Chg} (h : refuseE M len c = 0) : (0 ≤ c.kind ∧ c.kind ≤ 3 → ∃ x, M c.at_ = some x ∧ x.kind = 2) ∧ (c.kind = 7 → ∃ y, M c.to = some y ∧ y.kind = 2) := by
  unfold refuseE at h
  split at h
  · cases h
  · unfold baseE at h
    constructor
    · intro hk
      rw [if_pos hk] at h
      unfold entryE at h
      cases hx : M c.at_ with
      | none => rw [hx] at h; cases h
      | some x =>
        rw [hx] at h
        dsimp only at h
        by_cases q : x.kind = 2
        · exact ⟨x, rfl, q⟩
        · rw [if_neg q] at h; cases h
    · intro hk
      rw [if_neg (by omega), if_pos (by omega)] at h
      unfold nodeE at h
      cases hx : M c.to with
      | none => rw [hx] at h; cases h
      | some y =>
        rw [hx] at h
        dsimp only at h
        rw [if_neg (by omega), if_pos hk] at h
        by_cases q : y.kind = 2
        · exact ⟨y, rfl, q⟩
        · rw [if_neg q] at h; cases h
theorem kindM_at {M : List Nd} {i : Int} {x : Nd} (h : atM M i = some x) (hk : x.kind = 2) : kc (M.map core) i = 2 := by
  rw [← kindM_core]
  unfold kindM nvAt
  rw [h]
  exact hk
theorem du_built {M : List Nd} {i : Nat} {s : ByteArray} {n : Nd} {d : Int} (h : DU M) (hu : n.kind = 2 → kc (M.map core) n.up = 2) : DU (builtM M i s n d) := by
  unfold builtM DU
  rw [core_mod (f := moreLinks) (fun _ => rfl), core_mod (f := addEnt s (M.length : Int)) (fun _ => rfl), core_app]
  have := duc_app (k := n.kind) (u := n.up) h hu
  rw [List.length_map] at this
  exact this
theorem du_do {M : List Nd} {c : Chg} (h : DU M) : DU (doM M c) := by
  unfold doM
  split
  · rename_i hw
    obtain ⟨r1, r2⟩ := refuse_dir hw
    rcases wrong_cases hw with ⟨x, hx, hk, hl⟩ | ⟨k2, x, y, hx, hy, _⟩ | ⟨k7, hl, y, hy⟩ | ⟨hk, y, hy⟩
    · unfold carryM
      rcases hk with k0 | ⟨k1, _⟩ | k3
      · rw [if_pos k0]
        obtain ⟨x', hx', hd⟩ := r1 (by omega)
        exact du_built h (fun _ => kindM_at hx' hd)
      · rw [if_neg (by omega), if_pos k1]
        exact du_built h (fun e => absurd e (by show ¬ (1 : Int) = 2; omega))
      · rw [if_neg (by omega), if_neg (by omega), if_neg (by omega), if_pos k3]
        exact du_built h (fun e => absurd e (by show ¬ (3 : Int) = 2; omega))
    · unfold carryM
      rw [if_neg (by omega), if_neg (by omega), if_pos k2]
      unfold DU
      dsimp only
      rw [core_mod (f := moreLinks) (fun _ => rfl), core_mod (f := addEnt c.name c.to) (fun _ => rfl)]
      exact h
    · unfold carryM
      rw [if_neg (by omega), if_neg (by omega), if_neg (by omega), if_neg (by omega), if_pos k7]
      obtain ⟨y', hy', hd⟩ := r2 k7
      have hup : kc (M.map core) ((atM M c.to).elim 0 (·.up)) = 2 := by
        rw [hy']
        obtain ⟨j, _, hj⟩ := atM_some hy'
        have hc : (M.map core)[j]? = some (2, y'.up, y'.over) := by rw [List.getElem?_map, hj]; show some (core y') = _; unfold core; rw [hd]
        exact (h j _ _ hc).1
      have h1 := duc_app (k := 2) (u := (atM M c.to).elim 0 (·.up)) h (fun _ => hup)
      unfold coveredM DU
      have e : ((M ++ [addedNd (dirNd (c.a % 4096) ((atM M c.to).elim 0 (·.up))) (((devL M 0).length : Int) + 1) M]).modify c.to.toNat (setOver (M.length : Int))).map core = (M.map core ++ [(2, (atM M c.to).elim 0 (·.up), ((M.map core).length : Int))]).modify c.to.toNat (fun t => (t.1, t.2.1, (M.length : Int))) := by
        rw [List.length_map]
        apply List.ext_getElem?
        intro k
        have ec : M.map core ++ [(2, (atM M c.to).elim 0 (·.up), (M.length : Int))] = (M ++ [addedNd (dirNd (c.a % 4096) ((atM M c.to).elim 0 (·.up))) (((devL M 0).length : Int) + 1) M]).map core := (core_app M (addedNd (dirNd (c.a % 4096) ((atM M c.to).elim 0 (·.up))) (((devL M 0).length : Int) + 1) M)).symm
        rw [List.getElem?_map, List.getElem?_modify, List.getElem?_modify, ec, List.getElem?_map]
        cases hm : (M ++ [addedNd (dirNd (c.a % 4096) ((atM M c.to).elim 0 (·.up))) (((devL M 0).length : Int) + 1) M])[k]? with
        | none => rfl
        | some z =>
          show some (core (if c.to.toNat = k then setOver (M.length : Int) z else z)) = some (if c.to.toNat = k then _ else core z)
          split <;> rfl
      rw [e]
      refine duc_set h1 ?_
      have := kc_last (M.map core) (2, (atM M c.to).elim 0 (·.up), ((M.map core).length : Int))
      rw [List.length_map] at this ⊢
      exact this
    · unfold carryM
      rw [if_neg (by omega), if_neg (by omega), if_neg (by omega), if_neg (by omega), if_neg (by omega)]
      unfold DU
      rw [core_mod (setNd_core c)]
      exact h
  · exact h
theorem du_new : DU newM := by
  intro i u o hi
  match i, hi with
  | 0, hi =>
    have e : (newM.map core)[0]? = some (2, 0, 0) := by decide
    rw [e] at hi
    obtain ⟨rfl, rfl⟩ : u = 0 ∧ o = 0 := by
      have := Option.some.inj hi
      simp only [Prod.mk.injEq, true_and] at this
      exact ⟨this.1.symm, this.2.symm⟩
    exact ⟨by decide, by decide⟩
  | i + 1, hi => simp [newM] at hi
/-- Above a directory there is one, and what covers it. -/
theorem du_up {M : List Nd} (h : DU M) {i : Int} (hi : kindM M i = 2) : kindM M (overI M (upI M i)) = 2 := by
  rw [kindM_core] at hi
  unfold kc at hi
  split at hi
  · rename_i q
    rw [List.length_map] at q
    have hat : ∃ n, M[i.toNat]? = some n := ⟨_, List.getElem?_eq_getElem (by omega)⟩
    obtain ⟨n, hn⟩ := hat
    have ha : atM M i = some n := by unfold atM; rw [if_pos q]; exact hn
    rw [List.getElem?_map, hn] at hi
    have hk : n.kind = 2 := hi
    have hc : (M.map core)[i.toNat]? = some (2, n.up, n.over) := by rw [List.getElem?_map, hn]; show some (core n) = _; unfold core; rw [hk]
    have hu := (h _ _ _ hc).1
    have eu : upI M i = n.up := by unfold upI; rw [ha]
    rw [eu]
    -- the one above
    unfold kc at hu
    split at hu
    · rename_i q2
      rw [List.length_map] at q2
      obtain ⟨m, hm⟩ : ∃ m, M[n.up.toNat]? = some m := ⟨_, List.getElem?_eq_getElem (by omega)⟩
      have hb : atM M n.up = some m := by unfold atM; rw [if_pos q2]; exact hm
      rw [List.getElem?_map, hm] at hu
      have hk2 : m.kind = 2 := hu
      have hc2 : (M.map core)[n.up.toNat]? = some (2, m.up, m.over) := by rw [List.getElem?_map, hm]; show some (core m) = _; unfold core; rw [hk2]
      have eo : overI M n.up = m.over := by unfold overI; rw [hb]
      rw [eo, kindM_core]
      exact (h _ _ _ hc2).2
    · cases hu
  · cases hi

def dd : ByteArray := ⟨#[46, 46]⟩
theorem may_root (M : List Nd) (g i : Int) (hk : kindM M i = 2) : mayB (bitsP (nvAt M i) 0 g) 1 = true := by
  have e : bitsP (nvAt M i) 0 g = 7 := by
    unfold bitsP
    rw [if_pos rfl, if_pos (.inl hk)]
  rw [e]
  decide
theorem entW_dd (M : List Nd) (g i : Int) (hk : kindM M i = 2) : entW M 0 g i dd = .ok (plOf (overI M (upI M i))) := by
  unfold entW
  have h1 : ¬ dd.toList = [46] := by rw [Go.Lib.toList_data]; decide
  have h2 : dd.toList = [46, 46] := by rw [Go.Lib.toList_data]; rfl
  rw [if_pos hk, if_pos (may_root M g i hk), if_pos (show dd.size ≤ 255 by decide), if_neg h1, if_pos h2]
theorem entW_no (M : List Nd) (u g i : Int) (s : ByteArray) (hk : ¬ kindM M i = 2) : entW M u g i s = .error 3 := by
  unfold entW
  rw [if_neg hk]
theorem thru_true (M : List Nd) (sl : Bool) (r : List ByteArray) (i : Int) : thruW M true sl r i = (kindM M i == 3) := by
  unfold thruW
  simp
theorem kOf_succ (M : List Nd) (u g : Int) (fo : Bool) (h : Nat) (i : Int) (r : List ByteArray) (q : Pl) (sl : Bool) : kOf M u g fo (h + 1) i r q sl = if linkE M i = 0 then goW M u g fo h (namesL (linkT M i) ++ r) (if beginsB (linkT M i) = true then plOf 0 else q) (sl || (endsB (linkT M i) && r.isEmpty)) else bad (linkE M i) := rfl
/-- What the walk with two points behind comes to, beside the walk without. -/
def UpOk (M : List Nd) (r1 r2 : Res) : Prop :=
  (r1.err = 0 → kindM M r1.pl.id = 2 → r2 = ⟨0, plOf (overI M (upI M r1.pl.id)), r1.hops⟩) ∧ (r1.err = 0 → ¬ kindM M r1.pl.id = 2 → r2.err = 3) ∧ (r1.err ≠ 0 → r2.err ≠ 0)
theorem up_bad (M : List Nd) {e : Int} (he : e ≠ 0) : UpOk M (bad e) (bad e) := ⟨fun h => absurd h he, fun h => absurd h he, fun h => h⟩
theorem up_nil {M : List Nd} (hD : DU M) (g : Int) (h : Nat) (p : Pl) (sl : Bool) : UpOk M (goW M 0 g true h [] p sl) (goW M 0 g true h [dd] p false) := by
  rw [goW_nil, goW_cons]
  by_cases hk : kindM M p.id = 2
  · have e1 : endW M sl p (40 - (h : Int)) = ⟨0, p, 40 - (h : Int)⟩ := by unfold endW; rw [if_neg (fun q => q.2 hk)]
    have hq := du_up hD hk
    rw [e1, entW_dd M g p.id hk]
    show UpOk M _ (if thruW M true false [] (plOf (overI M (upI M p.id))).id = true then _ else _)
    rw [thru_true, if_neg (by rw [show (plOf (overI M (upI M p.id))).id = overI M (upI M p.id) from rfl, hq]; decide), goW_nil]
    have e2 : endW M false (plOf (overI M (upI M p.id))) (40 - (h : Int)) = ⟨0, plOf (overI M (upI M p.id)), 40 - (h : Int)⟩ := by unfold endW; rw [if_neg (fun q => by cases q.1)]
    rw [e2]
    exact ⟨fun _ _ => rfl, fun _ q => absurd hk q, fun q => absurd rfl q⟩
  · rw [entW_no M 0 g p.id dd hk]
    show UpOk M _ (bad 3)
    unfold endW
    split
    · exact up_bad M (by decide)
    · exact ⟨fun _ q => absurd q hk, fun _ _ => rfl, fun q => absurd rfl q⟩
theorem up_step {M : List Nd} (hD : DU M) (g : Int) (h : Nat)
    (hk : ∀ (i : Int) (r : List ByteArray) (p : Pl) (sl : Bool), UpOk M (kOf M 0 g true h i r p sl) (kOf M 0 g true h i (r ++ [dd]) p false)) :
    ∀ (l : List ByteArray) (p : Pl) (sl : Bool), UpOk M (goW M 0 g true h l p sl) (goW M 0 g true h (l ++ [dd]) p false)
  | [], p, sl => up_nil hD g h p sl
  | s :: r, p, sl => by
    rw [List.cons_append, goW_cons, goW_cons]
    cases he : entW M 0 g p.id s with
    | error e => exact up_bad M (entW_err he)
    | ok q =>
      show UpOk M (if thruW M true sl r q.id = true then _ else _) (if thruW M true false (r ++ [dd]) q.id = true then _ else _)
      rw [thru_true, thru_true]
      split
      · exact hk q.id r p sl
      · exact up_step hD g h hk r q sl
theorem up_go {M : List Nd} (hD : DU M) (g : Int) : ∀ (h : Nat) (l : List ByteArray) (p : Pl) (sl : Bool), UpOk M (goW M 0 g true h l p sl) (goW M 0 g true h (l ++ [dd]) p false)
  | 0 => up_step hD g 0 (fun _ _ _ _ => up_bad M (by decide))
  | h + 1 => up_step hD g (h + 1) (fun i r p sl => by
    rw [kOf_succ, kOf_succ]
    by_cases hl : linkE M i = 0
    · rw [if_pos hl, if_pos hl, ← List.append_assoc]
      have e : (false || (endsB (linkT M i) && (r ++ [dd]).isEmpty)) = false := by
        cases r <;> simp
      rw [e]
      exact up_go hD g h _ _ _
    · rw [if_neg hl, if_neg hl]
      exact up_bad M hl)
theorem names_up (s : ByteArray) : namesL (s ++ ⟨#[47, 46, 46]⟩) = namesL s ++ [dd] := by
  rw [names_spl, names_spl]
  have e : (s ++ ⟨#[47, 46, 46]⟩ : ByteArray).data.toList = s.data.toList ++ 47 :: [46, 46] := by
    rw [ByteArray.data_append]
    simp
  rw [e, spl_app, List.map_append]
  rfl
theorem ends_up (s : ByteArray) : endsB (s ++ ⟨#[47, 46, 46]⟩) = false := by
  unfold endsB Lib.hasSuffix
  have e : (s ++ ⟨#[47, 46, 46]⟩ : ByteArray).data.toList = s.data.toList ++ [47, 46, 46] := by
    rw [ByteArray.data_append]
    simp
  rw [e]
  unfold List.isSuffixOf
  simp [List.isPrefixOf]
theorem up_walk {M : List Nd} (hD : DU M) (g : Int) (s : ByteArray) (h0 : ¬ s.size = 0) (h1 : s.size ≤ 1000) : UpOk M (walkW M 0 g s true) (walkW M 0 g (s ++ ⟨#[47, 46, 46]⟩) true) := by
  have hs : (s ++ ⟨#[47, 46, 46]⟩ : ByteArray).size = s.size + 3 := by rw [ByteArray.size_append]; rfl
  unfold walkW
  rw [if_neg h0, if_neg (by omega), if_neg (by omega), if_neg (by omega), names_up, ends_up]
  exact up_go hD g 40 _ _ _

/-- Each slash twice. -/
def dblF : List UInt8 → List UInt8
  | [] => []
  | b :: l => (if b = 47 then [47, 47] else [b]) ++ dblF l
/-- A point behind each slash but the last byte. -/
def dotF : List UInt8 → List UInt8
  | [] => []
  | b :: l => (if b = 47 ∧ l ≠ [] then [47, 46, 47] else [b]) ++ dotF l
theorem spl_slash (cur l : List UInt8) : spl cur (47 :: l) = (if cur = [] then spl [] l else cur :: spl [] l) := rfl
theorem spl_byte {b : UInt8} (h : b ≠ 47) (cur l : List UInt8) : spl cur (b :: l) = spl (cur ++ [b]) l := by
  show (if b = 47 then _ else _) = _
  rw [if_neg h]
theorem spl_dbl : ∀ (l cur : List UInt8), spl cur (dblF l) = spl cur l
  | [], cur => rfl
  | b :: l, cur => by
    rw [dblF]
    by_cases h : b = 47
    · subst h
      rw [if_pos rfl]
      show spl cur (47 :: 47 :: dblF l) = _
      rw [spl_slash, spl_slash, spl_slash, if_pos rfl, spl_dbl l []]
    · rw [if_neg h]
      show spl cur (b :: dblF l) = _
      rw [spl_byte h, spl_byte h, spl_dbl l]
theorem dbl_len : ∀ l, (dblF l).length ≤ 2 * l.length ∧ l.length ≤ (dblF l).length
  | [] => ⟨Nat.le_refl _, Nat.le_refl _⟩
  | b :: l => by
    have := dbl_len l
    rw [dblF, List.length_append, List.length_cons]
    split <;> simp <;> omega
theorem dot_len : ∀ l, (dotF l).length ≤ 3 * l.length ∧ l.length ≤ (dotF l).length
  | [] => ⟨Nat.le_refl _, Nat.le_refl _⟩
  | b :: l => by
    have := dot_len l
    rw [dotF, List.length_append, List.length_cons]
    split <;> simp <;> omega
theorem dbl_last : ∀ l, (dblF l).getLast? = l.getLast?
  | [] => rfl
  | b :: l => by
    have ih := dbl_last l
    rw [dblF]
    cases l with
    | nil => by_cases h : b = 47 <;> simp [dblF, h]
    | cons c r =>
      rw [List.getLast?_append, ih, List.getLast?_cons_cons]
      have : ((c :: r).getLast?).isSome := by simp
      cases hx : (c :: r).getLast? with
      | none => rw [hx] at this; cases this
      | some z => rfl
theorem dot_last : ∀ l, (dotF l).getLast? = l.getLast?
  | [] => rfl
  | b :: l => by
    have ih := dot_last l
    rw [dotF]
    cases l with
    | nil => simp [dotF]
    | cons c r =>
      rw [List.getLast?_append, ih, List.getLast?_cons_cons]
      have : ((c :: r).getLast?).isSome := by simp
      cases hx : (c :: r).getLast? with
      | none => rw [hx] at this; cases this
      | some z => rfl
theorem ends_last (s : ByteArray) : endsB s = (s.data.toList.getLast? == some 47) := by
  unfold endsB Lib.hasSuffix List.isSuffixOf
  generalize s.data.toList = l
  rw [← List.head?_reverse]
  cases l.reverse with
  | nil => rfl
  | cons x r =>
    simp [List.isPrefixOf]
    rw [Bool.eq_iff_iff, beq_iff_eq, beq_iff_eq]
    exact eq_comm
theorem spl_nil_last : ∀ l : List UInt8, spl [] l = [] → l ≠ [] → l.getLast? = some 47
  | [], _, h => absurd rfl h
  | b :: l, h, _ => by
    by_cases q : b = 47
    · subst q
      rw [spl_slash, if_pos rfl] at h
      cases l with
      | nil => rfl
      | cons c r => rw [List.getLast?_cons_cons]; exact spl_nil_last (c :: r) h (by simp)
    · rw [spl_byte q] at h
      exact absurd h (spl_cons_ne _ _ (by simp))
where
  spl_cons_ne : ∀ (l cur : List UInt8), cur ≠ [] → spl cur l ≠ []
    | [], cur, h => by
      show (if cur = [] then [] else [cur]) ≠ []
      rw [if_neg h]
      simp
    | b :: l, cur, h => by
      by_cases q : b = 47
      · subst q
        rw [spl_slash, if_neg h]
        simp
      · rw [spl_byte q]
        exact spl_cons_ne l _ (by simp)

def dot1 : ByteArray := ⟨#[46]⟩
/-- Points put in; behind the last name only where a slash ends. -/
inductive Ins (sl : Bool) : List ByteArray → List ByteArray → Prop
  | nil : Ins sl [] []
  | last {r : List ByteArray} (h : sl = true) (k : Ins sl [] r) : Ins sl [] (dot1 :: r)
  | dot {x : ByteArray} {l r : List ByteArray} (k : Ins sl (x :: l) r) : Ins sl (x :: l) (dot1 :: r)
  | cons {x : ByteArray} {l r : List ByteArray} (k : Ins sl l r) : Ins sl (x :: l) (x :: r)
theorem Ins.refl {sl : Bool} : ∀ l, Ins sl l l
  | [] => .nil
  | x :: l => .cons (Ins.refl l)
theorem Ins.pre {sl : Bool} {a b : List ByteArray} (h : Ins sl a b) : ∀ n, Ins sl (n ++ a) (n ++ b)
  | [] => h
  | x :: n => .cons (h.pre n)
theorem Ins.more {sl sl' : Bool} (hs : sl = true → sl' = true) {a b : List ByteArray} (h : Ins sl a b) : Ins sl' a b := by
  induction h with
  | nil => exact .nil
  | last h k ih => exact .last (hs h) ih
  | dot k ih => exact .dot ih
  | cons k ih => exact .cons ih
theorem ins_dot : ∀ (l cur : List UInt8), Ins (l.getLast? == some 47) ((spl cur l).map mkB) ((spl cur (dotF l)).map mkB)
  | [], cur => Ins.refl _
  | b :: l, cur => by
    have ih := fun c => ins_dot l c
    by_cases h : b = 47
    · subst h
      by_cases hl : l = []
      · subst hl
        exact Ins.refl _
      · have e : ((47 : UInt8) :: l).getLast? = l.getLast? := by
          cases l with
          | nil => exact absurd rfl hl
          | cons c r => exact List.getLast?_cons_cons
        rw [e, dotF, if_pos ⟨rfl, hl⟩]
        show Ins _ ((spl cur (47 :: l)).map mkB) ((spl cur (47 :: 46 :: 47 :: dotF l)).map mkB)
        have e2 : spl [] (46 :: 47 :: dotF l) = [46] :: spl [] (dotF l) := by
          rw [spl_byte (by decide)]
          rfl
        have key : Ins (l.getLast? == some 47) ((spl [] l).map mkB) (([46] :: spl [] (dotF l)).map mkB) := by
          show Ins _ _ (dot1 :: (spl [] (dotF l)).map mkB)
          have ih0 := ih []
          cases hs : spl [] l with
          | nil =>
            rw [hs] at ih0
            exact .last (by rw [spl_nil_last l hs hl]; rfl) ih0
          | cons x r =>
            rw [hs] at ih0
            exact .dot ih0
        rw [spl_slash, spl_slash, e2]
        split
        · exact key
        · exact .cons key
    · have e : ((b :: l).getLast? == some 47) = (l.getLast? == some 47) := by
        cases l with
        | nil =>
          show (some b == some 47) = (none == some (47 : UInt8))
          rw [beq_eq_false_iff_ne.2 (fun q => h (Option.some.inj q))]
          rfl
        | cons c r => rw [List.getLast?_cons_cons]
      rw [e, dotF, if_neg (fun q => h q.1)]
      show Ins _ ((spl cur (b :: l)).map mkB) ((spl cur (b :: dotF l)).map mkB)
      rw [spl_byte h, spl_byte h]
      exact ih _

def SameR (a b : Res) : Prop := a.err = b.err ∧ a.pl.id = b.pl.id
theorem entW_dot (M : List Nd) (g i : Int) (hk : kindM M i = 2) : entW M 0 g i dot1 = .ok (plOf i) := by
  unfold entW
  have h1 : dot1.toList = [46] := by rw [Go.Lib.toList_data]; rfl
  rw [if_pos hk, if_pos (may_root M g i hk), if_pos (show dot1.size ≤ 255 by decide), if_pos h1]
theorem thru_ins {sl : Bool} {r1 r2 : List ByteArray} (h : Ins sl r1 r2) (M : List Nd) (fo : Bool) (i : Int) : thruW M fo sl r1 i = thruW M fo sl r2 i := by
  unfold thruW
  cases h with
  | nil => rfl
  | last h k => rw [h]; simp
  | dot k => simp
  | cons k => simp
theorem end_same (M : List Nd) (sl : Bool) (p1 p2 : Pl) (h : Int) (hp : p1.id = p2.id) : SameR (endW M sl p1 h) (endW M sl p2 h) := by
  unfold endW
  rw [hp]
  split
  · exact ⟨rfl, rfl⟩
  · exact ⟨rfl, hp⟩
theorem ins_step {M : List Nd} (g : Int) (fo : Bool) (h : Nat)
    (hk : ∀ (i : Int) (r1 r2 : List ByteArray) (p1 p2 : Pl) (sl : Bool), p1.id = p2.id → Ins sl r1 r2 → SameR (kOf M 0 g fo h i r1 p1 sl) (kOf M 0 g fo h i r2 p2 sl)) {sl : Bool} {l1 l2 : List ByteArray} (hi : Ins sl l1 l2) :
    ∀ (p1 p2 : Pl), p1.id = p2.id → SameR (goW M 0 g fo h l1 p1 sl) (goW M 0 g fo h l2 p2 sl) := by
  induction hi with
  | nil =>
    intro p1 p2 hp
    rw [goW_nil, goW_nil]
    exact end_same M sl p1 p2 _ hp
  | @last r hs k ih =>
    intro p1 p2 hp
    by_cases hq : kindM M p2.id = 2
    · rw [goW_cons M 0 g fo h dot1, entW_dot M g p2.id hq]
      show SameR _ (if thruW M fo sl r (plOf p2.id).id = true then _ else _)
      rw [if_neg (by unfold thruW; rw [show (plOf p2.id).id = p2.id from rfl, hq]; simp)]
      exact ih p1 (plOf p2.id) hp
    · rw [goW_cons M 0 g fo h dot1, entW_no M 0 g p2.id dot1 hq, goW_nil]
      unfold endW
      rw [if_pos ⟨hs, by rw [hp]; exact hq⟩]
      exact ⟨rfl, rfl⟩
  | @dot x l r k ih =>
    intro p1 p2 hp
    by_cases hq : kindM M p2.id = 2
    · rw [goW_cons M 0 g fo h dot1, entW_dot M g p2.id hq]
      show SameR _ (if thruW M fo sl r (plOf p2.id).id = true then _ else _)
      rw [if_neg (by unfold thruW; rw [show (plOf p2.id).id = p2.id from rfl, hq]; simp)]
      exact ih p1 (plOf p2.id) hp
    · rw [goW_cons M 0 g fo h dot1, entW_no M 0 g p2.id dot1 hq, goW_cons, entW_no M 0 g p1.id x (by rw [hp]; exact hq)]
      exact ⟨rfl, rfl⟩
  | @cons x l r k ih =>
    intro p1 p2 hp
    rw [goW_cons, goW_cons, hp]
    cases he : entW M 0 g p2.id x with
    | error e => exact ⟨rfl, rfl⟩
    | ok q =>
      show SameR (if thruW M fo sl l q.id = true then _ else _) (if thruW M fo sl r q.id = true then _ else _)
      rw [thru_ins k]
      split
      · exact hk q.id l r p1 p2 sl hp k
      · exact ih q q rfl
theorem ins_empty {sl : Bool} {r1 r2 : List ByteArray} (h : Ins sl r1 r2) (b : Bool) : (sl || (b && r1.isEmpty)) = (sl || (b && r2.isEmpty)) := by
  cases h with
  | nil => rfl
  | last h k => rw [h]; simp
  | dot k => simp
  | cons k => simp
theorem ins_go {M : List Nd} (g : Int) (fo : Bool) : ∀ (h : Nat) {sl : Bool} {l1 l2 : List ByteArray}, Ins sl l1 l2 → ∀ (p1 p2 : Pl), p1.id = p2.id → SameR (goW M 0 g fo h l1 p1 sl) (goW M 0 g fo h l2 p2 sl)
  | 0, _, _, _, hi => ins_step g fo 0 (fun _ _ _ _ _ _ _ _ => ⟨rfl, rfl⟩) hi
  | h + 1, _, _, _, hi => ins_step g fo (h + 1) (fun i r1 r2 p1 p2 sl hp k => by
    rw [kOf_succ, kOf_succ]
    by_cases hl : linkE M i = 0
    · rw [if_pos hl, if_pos hl, ins_empty k]
      refine ins_go g fo h ((k.more ?_).pre _) _ _ ?_
      · intro q
        rw [q]
        rfl
      · split
        · rfl
        · exact hp
    · rw [if_neg hl, if_neg hl]
      exact ⟨rfl, rfl⟩) hi
theorem size_list (s : ByteArray) : s.data.toList.length = s.size := by simp
theorem dbl_walk (M : List Nd) (u g : Int) (fo : Bool) (s : ByteArray) (h0 : ¬ s.size = 0) (h1 : s.size ≤ 500) : walkW M u g (mkB (dblF s.data.toList)) fo = walkW M u g s fo := by
  have hl := dbl_len s.data.toList
  have hs := size_list s
  have hs2 : (mkB (dblF s.data.toList)).size = (dblF s.data.toList).length := by unfold mkB; simp [ByteArray.size]
  have hd : (mkB (dblF s.data.toList)).data.toList = dblF s.data.toList := by unfold mkB; rfl
  unfold walkW
  rw [if_neg (by omega), if_neg (by omega), if_neg h0, if_neg (by omega), names_spl, names_spl, ends_last, ends_last, hd, spl_dbl, dbl_last]
theorem dot_walk (M : List Nd) (g : Int) (fo : Bool) (s : ByteArray) (h0 : ¬ s.size = 0) (h1 : s.size ≤ 500) : SameR (walkW M 0 g s fo) (walkW M 0 g (mkB (dotF s.data.toList)) fo) := by
  have hl := dot_len s.data.toList
  have hs := size_list s
  have hs2 : (mkB (dotF s.data.toList)).size = (dotF s.data.toList).length := by unfold mkB; simp [ByteArray.size]
  have hd : (mkB (dotF s.data.toList)).data.toList = dotF s.data.toList := by unfold mkB; rfl
  unfold walkW
  rw [if_neg h0, if_neg (by omega), if_neg (show ¬ (mkB (dotF s.data.toList)).size = 0 by omega), if_neg (by omega), names_spl, names_spl, ends_last, ends_last, hd, dot_last]
  exact ins_go g fo 40 (ins_dot s.data.toList []) _ _ rfl
end Go.Proofs.YtjdcoaiklpkedaaDoor
