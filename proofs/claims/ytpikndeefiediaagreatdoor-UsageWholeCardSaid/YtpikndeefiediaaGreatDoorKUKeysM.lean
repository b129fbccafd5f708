/-
  What a walk visits is what is reached, each node's number once where each counts once, by a model over any tree. Conditions: each fact's own.
  How much there is of a run's nodes, by a model: blocks are none below 0; what is counted, each once or each time; what is reached from the root. Conditions: each fact's own.
  Keys of the nodes that were met, and the numbers by which they are met: told one from the other; a walk's visits, by depth and number. Conditions: each fact's own.
-/
import Derived.Test.YtpikndeefiediaaGreatDoorKGBoundM
import Derived.Test.YtpikndeefiediaaGreatDoorKGMode
import Derived.Test.YtpikndeefiediaaGreatDoorKUKeyM
import Derived.Test.YtpikndeefiediaaGreatDoorKUMeet
import Derived.Test.YtpikndeefiediaaGreatDoorKUTake
set_option linter.unusedVariables false
namespace Go.Proofs.YtpikndeefiediaaGreatDoor.U
open Go.Proofs.YtpikndeefiediaaGreatDoor.G

/-- The first visits' nodes. -/
def idsO (T : Tr) (most : Int) : Nat → Int → Int → List Int
  | 0, i, _ => [T.over i]
  | f + 1, i, d => T.over i :: (if (T.dir (T.over i) = true ∧ deepB most d = true) ∧ (T.shown (T.over i)).1 = 0 then kidsO (idsO T most f) d (T.shown (T.over i)).2 else [])
def firstB (v : Vis) : Bool := !v.over && decide (v.err = 0)
theorem kids_ids {T : Tr} {most : Int} {f : Nat} {v : Vis} : ∀ (l : List (ByteArray × Int)), (∀ e b, ((walkV T most f (kidV v e b)).filter firstB).map Vis.id = idsO T most f e.2 (v.depth + 1)) → ((kidsV (walkV T most f) v l).filter firstB).map Vis.id = kidsO (idsO T most f) v.depth l
  | [], _ => rfl
  | e :: r, h => by
    unfold kidsV kidsO
    rw [List.filter_append, List.map_append, h, kids_ids r h]
theorem walk_ids (T : Tr) (most : Int) : ∀ (f : Nat) (v : Vis), v.over = false → v.err = 0 → ((walkV T most f v).filter firstB).map Vis.id = idsO T most f v.id v.depth
  | 0, v, ho, he => by
    have h1 : firstB (atV T v) = true := by unfold firstB atV; simp [ho, he]
    unfold walkV idsO
    rw [List.filter_cons, if_pos h1]
    rfl
  | f + 1, v, ho, he => by
    have h1 : firstB (atV T v) = true := by unfold firstB atV; simp [ho, he]
    rw [idsO]
    by_cases hc : T.dir (T.over v.id) = true ∧ deepB most v.depth = true
    · by_cases hs : (T.shown (T.over v.id)).1 = 0
      · have h2 : firstB (overV (atV T v)) = false := rfl
        rw [walk_dir hc hs, if_pos ⟨hc, hs⟩, List.filter_cons, if_pos h1, List.filter_append, List.filter_cons, if_neg (by rw [h2]; decide), List.filter_nil, List.append_nil, List.map_cons, kids_ids _ (fun e b => walk_ids T most f _ rfl rfl)]
        rfl
      · have h2 : firstB (errV (atV T v) (T.shown (T.over v.id)).1) = false := by unfold firstB errV; simp [hs]
        rw [walk_err hc hs, if_neg (fun q => hs q.2), List.filter_cons, if_pos h1, List.filter_cons, if_neg (by rw [h2]; decide), List.filter_nil]
        rfl
    · rw [walk_leaf hc, if_neg (fun q => hc q.1), List.filter_cons, if_pos h1, List.filter_nil]
      rfl
/-- What is reached from a node. -/
inductive Reach (T : Tr) : Int → Int → Prop
  | here (a : Int) : Reach T a a
  | step {a x : Int} (e : ByteArray × Int) : T.dir a = true → e ∈ (T.shown a).2 → Reach T (T.over e.2) x → Reach T a x
theorem Reach.next {T : Tr} {a x : Int} (h : Reach T a x) (e : ByteArray × Int) (hd : T.dir x = true) (he : e ∈ (T.shown x).2) : Reach T a (T.over e.2) := by
  induction h with
  | here => exact .step e hd he (.here _)
  | step e' h1 h2 _ ih => exact .step e' h1 h2 (ih hd he)
theorem ids_reach (T : Tr) (most : Int) : ∀ (f : Nat) (i d : Int), ∀ x ∈ idsO T most f i d, Reach T (T.over i) x
  | 0, i, d, x, hx => by
    obtain rfl := List.mem_singleton.1 hx
    exact .here _
  | f + 1, i, d, x, hx => by
    unfold idsO at hx
    rcases List.mem_cons.1 hx with rfl | hx
    · exact .here _
    · split at hx
      · rename_i hc
        obtain ⟨e, he, hxe⟩ := kids_mem hx
        exact .step e hc.1.1 he (ids_reach T most f _ _ x hxe)
      · cases hx
theorem ids_here (T : Tr) (most : Int) (f : Nat) (i d : Int) : T.over i ∈ idsO T most f i d := by
  cases f with
  | zero => exact List.mem_singleton.2 rfl
  | succ f => exact List.mem_cons_self
theorem kids_in {g : Int → Int → List Int} {d x : Int} : ∀ {l : List (ByteArray × Int)} {e : ByteArray × Int}, e ∈ l → x ∈ g e.2 (d + 1) → x ∈ kidsO g d l
  | e' :: r, e, h, hx => by
    rcases List.mem_cons.1 h with rfl | h
    · exact List.mem_append_left _ hx
    · exact List.mem_append_right _ (kids_in h hx)
theorem reach_ids {T : Tr} {par : Int → Int} {N E : Nat} (B : TreeB T par N E) (hN : N ≤ 100) {a x : Int} (h : Reach T a x) (hok : ∀ y, Reach T a y → T.dir y = true → (T.shown y).1 = 0) :
    ∀ (f : Nat) (i d : Int), T.over i = a → (T.dir a = true → d ≤ a) → 100 ≤ (f : Int) + d → x ∈ idsO T (-1) f i d := by
  induction h with
  | here a =>
    intro f i d hi _ _
    subst hi
    exact ids_here T (-1) f i d
  | step e hd he hr ih =>
    rename_i a x
    intro f i d hi hda hf
    have h1 := hda hd
    have h2 := B.dir a hd
    cases f with
    | zero => omega
    | succ f =>
      subst hi
      have hdeep : deepB (-1) d = true := by
        unfold deepB
        rw [decide_eq_true (show (-1 : Int) < 0 by omega), decide_eq_true (show d < 100 by omega)]
        rfl
      unfold idsO
      rw [if_pos ⟨⟨hd, hdeep⟩, hok _ (.here _) hd⟩]
      refine List.mem_cons_of_mem _ (kids_in he (ih (fun y hy => hok y (.step e hd he hy)) f e.2 (d + 1) rfl (fun hk => ?_) (by omega)))
      have := (B.up _ hd e he hk).2
      omega
/-! ### sums -/
def sumB (b : Int → Int) (l : List Int) : Int := (l.map b).foldr (· + ·) 0
theorem sumB_cons (b : Int → Int) (x : Int) (l : List Int) : sumB b (x :: l) = b x + sumB b l := rfl
theorem sumB_snoc (b : Int → Int) (l : List Int) (x : Int) : sumB b (l ++ [x]) = sumB b l + b x := by
  induction l with
  | nil => show b x + 0 = 0 + b x; omega
  | cons y r ih => rw [List.cons_append, sumB_cons, sumB_cons, ih]; omega
theorem sumB_perm (b : Int → Int) {l m : List Int} (h : l.Perm m) : sumB b l = sumB b m := by
  induction h with
  | nil => rfl
  | cons x _ ih => rw [sumB_cons, sumB_cons, ih]
  | swap x y l => simp only [sumB_cons]; omega
  | trans _ _ h1 h2 => exact h1.trans h2
/-- Each once, in the order in which they come first. -/
def onceL (l : List Int) : List Int := l.foldl (fun m x => if m.contains x = true then m else m ++ [x]) []
theorem once_snoc (l : List Int) (x : Int) : onceL (l ++ [x]) = if (onceL l).contains x = true then onceL l else onceL l ++ [x] := by
  unfold onceL
  rw [List.foldl_append]
  rfl
theorem once_ok : ∀ (n : Nat) (l : List Int), l.length = n → (onceL l).Nodup ∧ ∀ x, x ∈ onceL l ↔ x ∈ l
  | 0, l, h => by
    have : l = [] := List.eq_nil_of_length_eq_zero h
    subst this
    exact ⟨List.nodup_nil, fun x => Iff.rfl⟩
  | n + 1, l, h => by
    rcases List.eq_nil_or_concat l with rfl | ⟨l', y, rfl⟩
    · cases h
    · rw [List.concat_eq_append] at h ⊢
      obtain ⟨h1, h2⟩ := once_ok n l' (by simpa using h)
      rw [once_snoc]
      split
      · rename_i q
        have hy : y ∈ l' := (h2 y).1 (by simpa using q)
        refine ⟨h1, fun x => ?_⟩
        rw [h2, List.mem_append, List.mem_singleton]
        exact ⟨.inl, fun z => z.elim id fun z => z ▸ hy⟩
      · rename_i q
        have hy : y ∉ onceL l' := by simpa using q
        refine ⟨List.nodup_append.2 ⟨h1, List.pairwise_singleton _ _, fun a ha b hb e => ?_⟩, fun x => ?_⟩
        · obtain rfl := List.mem_singleton.1 hb
          exact hy (e ▸ ha)
        · rw [List.mem_append, List.mem_append, h2]
theorem nodup_perm : ∀ (l m : List Int), l.Nodup → m.Nodup → (∀ x, x ∈ l ↔ x ∈ m) → l.Perm m
  | [], m, _, _, h => by
    cases m with
    | nil => exact List.Perm.refl _
    | cons y m => exact absurd ((h y).2 List.mem_cons_self) (by simp)
  | x :: l, m, hl, hm, h => by
    obtain ⟨a, b, rfl⟩ := List.append_of_mem ((h x).1 List.mem_cons_self)
    obtain ⟨l1, l2⟩ := List.nodup_cons.1 hl
    have hm2 : (x :: (a ++ b)).Nodup := (List.perm_middle.nodup_iff).1 hm
    obtain ⟨m1, m2⟩ := List.nodup_cons.1 hm2
    refine (List.Perm.cons x (nodup_perm l (a ++ b) l2 m2 fun y => ?_)).trans List.perm_middle.symm
    constructor
    · intro hy
      have := (h y).1 (List.mem_cons_of_mem _ hy)
      rcases List.mem_append.1 this with q | q
      · exact List.mem_append_left _ q
      · rcases List.mem_cons.1 q with rfl | q
        · exact absurd hy l1
        · exact List.mem_append_right _ q
    · intro hy
      have : y ∈ x :: l := (h y).2 (by
        rcases List.mem_append.1 hy with q | q
        · exact List.mem_append_left _ q
        · exact List.mem_append_right _ (List.mem_cons_of_mem _ q))
      rcases List.mem_cons.1 this with rfl | q
      · exact absurd hy m1
      · exact q
theorem once_sum (b : Int → Int) {l m : List Int} (hm : m.Nodup) (h : ∀ x, x ∈ l ↔ x ∈ m) : sumB b (onceL l) = sumB b m := by
  obtain ⟨h1, h2⟩ := once_ok l.length l rfl
  exact sumB_perm b (nodup_perm _ _ h1 hm fun x => (h2 x).trans (h x))
theorem once_le {b : Int → Int} : ∀ (n : Nat) (l : List Int), l.length = n → (∀ x ∈ l, 0 ≤ b x) → sumB b (onceL l) ≤ sumB b l ∧ 0 ≤ sumB b l
  | 0, l, h, _ => by
    have : l = [] := List.eq_nil_of_length_eq_zero h
    subst this
    exact ⟨Int.le_refl _, Int.le_refl _⟩
  | n + 1, l, h, hb => by
    rcases List.eq_nil_or_concat l with rfl | ⟨l', y, rfl⟩
    · cases h
    · rw [List.concat_eq_append] at h hb ⊢
      obtain ⟨h1, h2⟩ := once_le n l' (by simpa using h) (fun x hx => hb x (List.mem_append_left _ hx))
      have h3 := hb y (List.mem_append_right _ (List.mem_singleton.2 rfl))
      rw [once_snoc, sumB_snoc]
      split
      · omega
      · rw [sumB_snoc]; omega
/-- A list that begins with a node, and has with each what it leads to, has all that is reached. -/
theorem closed_reach {T : Tr} {a x : Int} {m : List Int} (h : Reach T a x) (ha : a ∈ m) (hc : ∀ y ∈ m, T.dir y = true → ∀ e ∈ (T.shown y).2, T.over e.2 ∈ m) : x ∈ m := by
  induction h with
  | here => exact ha
  | step e hd he _ ih => exact ih (hc _ ha hd e he)
end Go.Proofs.YtpikndeefiediaaGreatDoor.U

namespace Go.Proofs.YtpikndeefiediaaGreatDoor.U
open Go.Proofs.YtpikndeefiediaaGreatDoor.G

/-! ### no blocks below 0 -/
def BlkM (M : List V.Nd) : Prop := ∀ n ∈ M, 0 ≤ n.blocks ∧ n.blocks ≤ 18014398509482000
theorem blk_new : BlkM V.newM := fun n hn => by
  obtain rfl : n = V.addedNd (V.dirNd 493 0) 1 [] := by simpa [V.newM] using hn
  exact (by decide : (0 : Int) ≤ 8 ∧ (8 : Int) ≤ 18014398509482000)
theorem blk_mod {M : List V.Nd} {i : Nat} {f : V.Nd → V.Nd} (h : BlkM M) (hf : ∀ n : V.Nd, (f n).blocks = n.blocks) : BlkM (M.modify i f) := V.all_modify h (fun _ h => h) (fun n hn => by rw [hf]; exact hn)
theorem blk_app {M : List V.Nd} {n : V.Nd} (h : BlkM M) (hn : 0 ≤ n.blocks ∧ n.blocks ≤ 18014398509482000) : BlkM (M ++ [n]) := fun x hx => by
  rcases List.mem_append.1 hx with hx | hx
  · exact h x hx
  · obtain rfl := List.mem_singleton.1 hx; exact hn
theorem blk_built {M : List V.Nd} {i : Nat} {s : ByteArray} {n : V.Nd} {d : Int} (h : BlkM M) (hn : 0 ≤ n.blocks ∧ n.blocks ≤ 18014398509482000) : BlkM (V.builtM M i s n d) :=
  blk_mod (blk_mod (blk_app h hn) fun _ => rfl) fun _ => rfl
theorem blkOf_nonneg {n : Int} (h : 0 ≤ n) (h2 : n ≤ 9223372036854775807) : 0 ≤ V.blkOf n ∧ V.blkOf n ≤ 18014398509482000 := by
  unfold V.blkOf
  split <;> omega
theorem file_size {M : List V.Nd} {c : V.Chg} (h : V.wrongM M c = 0) (hk : c.kind = 1) : 0 ≤ c.n := by
  unfold V.wrongM V.refuseE at h
  have hb : V.baseE (V.atM M) c = 0 := by
    split at h
    · cases h
    · exact h
  unfold V.baseE at hb
  rw [if_pos (by omega)] at hb
  unfold V.entryE at hb
  split at hb
  · cases hb
  · repeat' split at hb
    all_goals first | (cases hb; done) | omega
theorem blk_do {M : List V.Nd} {c : V.Chg} (h : BlkM M) (hn : c.n ≤ 9223372036854775807) : BlkM (V.doM M c) := by
  unfold V.doM
  split
  · rename_i hw
    unfold V.carryM
    split
    · exact blk_built h (by decide : (0 : Int) ≤ 8 ∧ (8 : Int) ≤ 18014398509482000)
    · split
      · rename_i hk
        exact blk_built h (blkOf_nonneg (file_size hw hk) hn)
      · split
        · exact blk_mod (blk_mod h fun _ => rfl) fun _ => rfl
        · split
          · exact blk_built h (by decide : (0 : Int) ≤ 0 ∧ (0 : Int) ≤ 18014398509482000)
          · split
            · exact blk_mod (blk_app h (by decide : (0 : Int) ≤ 8 ∧ (8 : Int) ≤ 18014398509482000)) fun _ => rfl
            · refine blk_mod h fun n => ?_
              unfold V.setNd
              repeat' split
              all_goals rfl
  · exact h
theorem runM_blk : ∀ (cs : List V.Chg) (M : List V.Nd), (∀ c ∈ cs, c.n ≤ 9223372036854775807) → BlkM M → BlkM (V.runM cs M)
  | [], M, _, h => h
  | c :: r, M, hc, h => runM_blk r (V.doM M c) (fun x hx => hc x (List.mem_cons_of_mem _ hx)) (blk_do h (hc c List.mem_cons_self))
theorem do_len (M : List V.Nd) (c : V.Chg) : (V.doM M c).length ≤ M.length + 1 := by
  unfold V.doM
  split
  · unfold V.carryM V.builtM V.coveredM
    repeat' split
    all_goals simp
  · omega
theorem runM_len : ∀ (cs : List V.Chg) (M : List V.Nd), (V.runM cs M).length ≤ M.length + cs.length
  | [], M => Nat.le_refl _
  | c :: r, M => by
    have h1 := runM_len r (V.doM M c)
    have h2 := do_len M c
    rw [List.length_cons]
    show (V.runM r (V.doM M c)).length ≤ _
    omega
/-- A node's blocks. -/
def blkI (M : List V.Nd) (i : Int) : Int := (V.nvAt M i).blocks
theorem blkI_nonneg {M : List V.Nd} (h : BlkM M) (i : Int) : 0 ≤ blkI M i ∧ blkI M i ≤ 18014398509482000 := by
  unfold blkI V.nvAt
  split
  · exact ⟨Int.le_refl _, (by decide : (0 : Int) ≤ 18014398509482000)⟩
  · rename_i n hn
    obtain ⟨k, _, hk⟩ := V.atM_some hn
    exact h n (List.mem_of_getElem? hk)

/-! ### what is counted -/
theorem snoc_ind {p : List Int → Prop} (h0 : p []) (h1 : ∀ l x, p l → p (l ++ [x])) (l : List Int) : p l := by
  have : ∀ (n : Nat) (l : List Int), l.length = n → p l := fun n => by
    induction n with
    | zero => intro l h; obtain rfl := List.eq_nil_of_length_eq_zero h; exact h0
    | succ n ih =>
      intro l h
      rcases List.eq_nil_or_concat l with rfl | ⟨l', y, rfl⟩
      · cases h
      · rw [List.concat_eq_append] at h ⊢
        exact h1 _ _ (ih l' (by simpa using h))
  exact this _ l rfl
/-- One more node: what was met, what was counted. -/
def cntS (each : Bool) (b : Int → Int) (s : List Int × Int) (x : Int) : List Int × Int := (s.1 ++ [x], if each = false ∧ x ∈ s.1 then s.2 else N.cutZ (s.2 + b x))
/-- What was counted of nodes that were met in this order. -/
def cntZ (each : Bool) (b : Int → Int) (l : List Int) : Int := (l.foldl (cntS each b) ([], 0)).2
theorem cnt_fst (each : Bool) (b : Int → Int) : ∀ (l : List Int) (s : List Int × Int), (l.foldl (cntS each b) s).1 = s.1 ++ l
  | [], s => by simp
  | x :: r, s => by rw [List.foldl_cons, cnt_fst each b r]; simp [cntS]
theorem cnt_nil (each : Bool) (b : Int → Int) : cntZ each b [] = 0 := rfl
theorem cnt_snoc (each : Bool) (b : Int → Int) (l : List Int) (x : Int) : cntZ each b (l ++ [x]) = if each = false ∧ x ∈ l then cntZ each b l else N.cutZ (cntZ each b l + b x) := by
  unfold cntZ
  rw [List.foldl_append, List.foldl_cons, List.foldl_nil]
  have h := cnt_fst each b l ([], 0)
  rw [List.nil_append] at h
  generalize l.foldl (cntS each b) ([], 0) = s at h
  unfold cntS
  rw [h]
theorem cnt_bd (each : Bool) (b : Int → Int) (l : List Int) : -9223372036854775808 ≤ cntZ each b l ∧ cntZ each b l ≤ 9223372036854775807 := by
  induction l using snoc_ind with
  | h0 => rw [cnt_nil]; omega
  | h1 l x ih =>
    rw [cnt_snoc]
    split
    · exact ih
    · exact N.cutZ_bd _
theorem cut_same {n : Int} (h : -9223372036854775808 ≤ n) (h2 : n ≤ 9223372036854775807) : N.cutZ n = n := by
  unfold N.cutZ
  rw [if_neg (by omega), if_neg (by omega)]
theorem sum_le {b : Int → Int} {K : Int} : ∀ (l : List Int), (∀ x ∈ l, 0 ≤ b x ∧ b x ≤ K) → 0 ≤ sumB b l ∧ sumB b l ≤ K * l.length
  | [], _ => by show (0 : Int) ≤ 0 ∧ (0 : Int) ≤ K * ((0 : Nat) : Int); simp
  | x :: r, h => by
    obtain ⟨h1, h2⟩ := sum_le r (fun y hy => h y (List.mem_cons_of_mem _ hy))
    obtain ⟨h3, h4⟩ := h x List.mem_cons_self
    rw [sumB_cons, List.length_cons]
    have e : K * ((r.length + 1 : Nat) : Int) = K * r.length + K := by rw [Int.natCast_add, Int.mul_add]; simp
    omega
/-- Nothing is cut, where there is room: each once. -/
theorem cnt_once {b : Int → Int} {l : List Int} (h : ∀ x ∈ l, 0 ≤ b x ∧ b x ≤ 1099511627776) (hl : l.length ≤ 1000000) : cntZ false b l = sumB b (onceL l) := by
  induction l using snoc_ind with
  | h0 => rfl
  | h1 l x ih =>
    have hl' : l.length ≤ 1000000 := by rw [List.length_append] at hl; omega
    have h' : ∀ y ∈ l, 0 ≤ b y ∧ b y ≤ 1099511627776 := fun y hy => h y (List.mem_append_left _ hy)
    obtain ⟨o1, o2⟩ := once_ok l.length l rfl
    have hx := h x (List.mem_append_right _ (List.mem_singleton.2 rfl))
    rw [cnt_snoc, once_snoc, ih h' hl']
    by_cases q : x ∈ l
    · rw [if_pos ⟨rfl, q⟩, if_pos (by simpa using (o2 x).2 q)]
    · rw [if_neg (fun z => q z.2), if_neg (by simpa using (fun z => q ((o2 x).1 z))), sumB_snoc]
      have h2 := once_le l.length l rfl (fun y hy => (h' y hy).1)
      have h3 := sum_le l h'
      have h4 := (once_le (b := b) (onceL l).length (onceL l) rfl (fun y hy => (h' y ((o2 y).1 hy)).1)).2
      have h5 : (1099511627776 : Int) * l.length ≤ 1099511627776 * 1000000 := Int.mul_le_mul_of_nonneg_left (by omega) (by decide)
      exact cut_same (by omega) (by omega)
/-- .. and each time. -/
theorem cnt_each {b : Int → Int} {l : List Int} (h : ∀ x ∈ l, 0 ≤ b x ∧ b x ≤ 1099511627776) (hl : l.length ≤ 1000000) : cntZ true b l = sumB b l := by
  induction l using snoc_ind with
  | h0 => rfl
  | h1 l x ih =>
    have hl' : l.length ≤ 1000000 := by rw [List.length_append] at hl; omega
    have h' : ∀ y ∈ l, 0 ≤ b y ∧ b y ≤ 1099511627776 := fun y hy => h y (List.mem_append_left _ hy)
    have hx := h x (List.mem_append_right _ (List.mem_singleton.2 rfl))
    rw [cnt_snoc, ih h' hl', if_neg (fun z => by cases z.1), sumB_snoc]
    have h3 := sum_le l h'
    have h5 : (1099511627776 : Int) * l.length ≤ 1099511627776 * 1000000 := Int.mul_le_mul_of_nonneg_left (by omega) (by decide)
    exact cut_same (by omega) (by omega)

/-! ### what is reached from the root -/
theorem root_over {M : List V.Nd} (R : V.RI M) : V.overI M 0 = 0 := by
  obtain ⟨n, h1, h2, h3⟩ := R.root
  have := (R.cov 0 n h1).1 h3
  unfold V.overI
  rw [show (0 : Int) = ((0 : Nat) : Int) from rfl, at_num h1]
  exact this
theorem may_zero (n : P.Nv) (g : Int) (hk : n.kind = 2) : P.mayB (P.bitsP n 0 g) 5 = true := by
  unfold P.bitsP
  rw [if_pos rfl, if_pos (.inl hk)]
  decide
theorem shown_zero {M : List V.Nd} {g i : Int} (hd : V.kindM M i = 2) (hs : V.listE M i = 0) : ((treeM M 0 g true).shown i).1 = 0 := by
  show shownE M 0 g i = 0
  unfold shownE
  rw [if_neg (by omega), if_pos (may_zero _ g hd)]
  exact hs
theorem shown_all (M : List V.Nd) (u g i : Int) (e : En) : e ∈ ((treeM M u g true).shown i).2 ↔ e ∈ V.listL M i := by
  show e ∈ sortE ((V.listL M i).filter (shownB true)) ↔ _
  rw [(sortE_perm _).mem_iff, List.mem_filter]
  exact ⟨fun h => h.1, fun h => ⟨h, rfl⟩⟩
theorem list_dir {M : List V.Nd} {i : Int} {e : En} (h : e ∈ V.listL M i) : V.kindM M i = 2 := by
  unfold V.listL at h
  split at h
  · cases h
  · rename_i n hn
    split at h
    · rename_i hk
      unfold V.kindM V.nvAt
      rw [hn]
      exact hk
    · cases h
/-- All that is reached, each once: begun with the root, and closed. -/
structure All (M : List V.Nd) (m : List Int) : Prop where
  root : (0 : Int) ∈ m
  once : m.Nodup
  reach : ∀ x ∈ m, Reach (treeM M 0 0 true) 0 x
  ok : ∀ x ∈ m, V.kindM M x = 2 → V.listE M x = 0
  closed : ∀ x ∈ m, ∀ e ∈ V.listL M x, V.overI M e.2 ∈ m
theorem All.has {M : List V.Nd} {m : List Int} (h : All M m) {x : Int} (hx : Reach (treeM M 0 0 true) 0 x) : x ∈ m :=
  closed_reach hx h.root fun y hy _ e he => h.closed y hy e ((shown_all M 0 0 y e).1 he)
/-- The nodes that a walk of the root visits first. -/
def rootIds (M : List V.Nd) : List Int := idsO (treeM M 0 0 true) (-1) 101 0 0
theorem All.ids {M : List V.Nd} {m : List Int} (h : All M m) (R : V.RI M) (U : UI M) (hN : M.length ≤ 100) {E : Nat} (hE : ∀ n ∈ M, n.ents.length ≤ E) (x : Int) : x ∈ rootIds M ↔ x ∈ m := by
  have e0 : (treeM M 0 0 true).over 0 = 0 := root_over R
  constructor
  · intro hx
    have := ids_reach _ _ _ _ _ x hx
    rw [e0] at this
    exact h.has this
  · intro hx
    refine reach_ids (treeB R U 0 0 true hE) hN (h.reach x hx) (fun y hy hd => ?_) 101 0 0 e0 (fun _ => by omega) (by omega)
    exact shown_zero (of_decide_eq_true hd) (h.ok y (h.has hy) (of_decide_eq_true hd))
end Go.Proofs.YtpikndeefiediaaGreatDoor.U

namespace Go.Proofs.YtpikndeefiediaaGreatDoor.U
open Go.Proofs.YtpikndeefiediaaGreatDoor.G

/-! ### numbers of nodes that there are -/
def Val (M : List V.Nd) (i : Int) : Prop := ∃ (k : Nat) (n : V.Nd), i = (k : Int) ∧ M[k]? = some n
theorem val_at {M : List V.Nd} {i : Int} (h : Val M i) : ∃ (k : Nat) (n : V.Nd), i = (k : Int) ∧ M[k]? = some n ∧ V.nvAt M i = V.nvOf n := by
  obtain ⟨k, n, rfl, hn⟩ := h
  refine ⟨k, n, rfl, hn, ?_⟩
  unfold V.nvAt
  rw [at_num hn]
theorem val_lt {M : List V.Nd} {i : Int} (h0 : 0 ≤ i) (h1 : i < (M.length : Int)) : Val M i := by
  obtain ⟨k, rfl⟩ : ∃ k : Nat, i = (k : Int) := ⟨i.toNat, by omega⟩
  have : k < M.length := by omega
  exact ⟨k, M[k], rfl, List.getElem?_eq_getElem this⟩
theorem val_of_er {M : List V.Nd} {i : Int} (h : V.nodeEr M i = 0) : Val M i := by
  unfold V.nodeEr at h
  cases ha : V.atM M i with
  | none => rw [ha] at h; cases h
  | some n =>
    obtain ⟨k, rfl, hk⟩ := V.atM_some ha
    exact ⟨k, n, rfl, hk⟩
theorem er_of_val {M : List V.Nd} {i : Int} (h : Val M i) : V.nodeEr M i = 0 := by
  obtain ⟨k, n, rfl, hn⟩ := h
  unfold V.nodeEr
  rw [at_num hn]
theorem val_over {M : List V.Nd} (R : V.RI M) {i : Int} (h : Val M i) : Val M (V.overI M i) := by
  obtain ⟨k, n, rfl, hn⟩ := h
  unfold V.overI
  rw [at_num hn]
  rcases (R.cov k n hn).2 with q | ⟨_, j, m, q, hm, _⟩
  · exact ⟨k, n, q, hn⟩
  · exact ⟨j, m, q, hm⟩
theorem val_reach {M : List V.Nd} (R : V.RI M) {u g : Int} {all : Bool} {a x : Int} (h : Reach (treeM M u g all) a x) (ha : Val M a) : Val M x := by
  induction h with
  | here => exact ha
  | step e hd he _ ih =>
    have hg := (shown_good R all _ he).2
    exact ih (val_over R (val_lt hg.1 hg.2))
theorem key_inj {M : List V.Nd} (H : V.DevInv M) {i j : Int} (hi : Val M i) (hj : Val M j) (h : keyV (V.nvAt M i) = keyV (V.nvAt M j)) : i = j := by
  obtain ⟨a, n, rfl, hn, en⟩ := val_at hi
  obtain ⟨b, m, rfl, hm, em⟩ := val_at hj
  rw [en, em] at h
  unfold keyV V.nvOf at h
  simp only [Value.agg.injEq, Array.mk.injEq, List.cons.injEq, Value.int.injEq, true_and, and_true] at h
  rw [dev_ino H hn hm h.1 h.2]
def keysM (M : List V.Nd) (ids : List Int) : List Value := ids.map fun i => keyV (V.nvAt M i)
theorem keys_snoc (M : List V.Nd) (ids : List Int) (x : Int) : keysM M (ids ++ [x]) = keysM M ids ++ [keyV (V.nvAt M x)] := by
  unfold keysM
  rw [List.map_append]
  rfl
theorem keys_mem {M : List V.Nd} (H : V.DevInv M) {ids : List Int} (hv : ∀ i ∈ ids, Val M i) {x : Int} (hx : Val M x) : keyV (V.nvAt M x) ∈ keysM M ids ↔ x ∈ ids := by
  constructor
  · intro h
    obtain ⟨i, hi, e⟩ := List.mem_map.1 h
    rw [key_inj H hx (hv i hi) e.symm]
    exact hi
  · intro h
    exact List.mem_map.2 ⟨x, h, rfl⟩
/-! ### the nodes' numbers -/
theorem cntD_len (d : Int) : ∀ l : List V.Nd, V.cntD d l ≤ (l.length : Int)
  | [] => Int.le_refl _
  | n :: r => by
    have := cntD_len d r
    rw [V.cntD, List.length_cons]
    split <;> omega
/-- A node's device, number and blocks are small. -/
structure Bds (n : P.Nv) : Prop where
  dev : -9223372036854775808 ≤ n.dev ∧ n.dev ≤ 9223372036854775807
  ino : -9223372036854775808 ≤ n.ino ∧ n.ino ≤ 9223372036854775807
  blk : -9223372036854775808 ≤ n.blocks ∧ n.blocks ≤ 9223372036854775807
theorem bds_at {M : List V.Nd} (H : V.DevInv M) (hB : BlkM M) (hl : M.length ≤ 1000000) (i : Int) : Bds (V.nvAt M i) := by
  have hb := blkI_nonneg hB i
  unfold blkI at hb
  unfold V.nvAt at hb ⊢
  split at hb
  · rename_i ha
    exact ⟨⟨by decide, by decide⟩, ⟨by decide, by decide⟩, ⟨by decide, by decide⟩⟩
  · rename_i n ha
    obtain ⟨k, _, hk⟩ := V.atM_some ha
    obtain ⟨h1, h2, h3, _⟩ := H k n hk
    have h4 := V.devL_len M 0
    have h5 := cntD_len n.dev (M.take k)
    have h6 := cntD_nonneg n.dev (M.take k)
    have h7 : (M.take k).length ≤ M.length := by rw [List.length_take]; omega
    refine ⟨⟨?_, ?_⟩, ⟨?_, ?_⟩, ⟨?_, ?_⟩⟩ <;> (unfold V.nvOf at *; dsimp only at *; omega)
/-! ### a walk's visits -/
theorem walk_high (T : Tr) (most : Int) : ∀ (f : Nat) (v : Vis), v.depth ≤ 100 → ∀ x ∈ walkV T most f v, x.depth ≤ 100
  | 0, v, hv, x, hx => by
    obtain rfl := List.mem_singleton.1 hx
    exact hv
  | f + 1, v, hv, x, hx => by
    unfold walkV at hx
    split at hx
    · rename_i hd
      have hlt := deep_lt hd.2
      split at hx
      · simp only [List.mem_cons, List.not_mem_nil, or_false] at hx
        rcases hx with rfl | rfl <;> exact hv
      · rcases List.mem_cons.1 hx with rfl | hx
        · exact hv
        · rcases List.mem_append.1 hx with hx | hx
          · refine kids_all (P := fun x => x.depth ≤ 100) _ (fun e b y hy => ?_) x hx
            have e1 : (kidV (atV T v) e b).depth = v.depth + 1 := rfl
            exact walk_high T most f _ (by omega) y hy
          · obtain rfl := List.mem_singleton.1 hx
            exact hv
    · obtain rfl := List.mem_singleton.1 hx
      exact hv
/-- The nodes of a start, each visit's first. -/
def startIds (M : List V.Nd) (u g i : Int) : List Int := if V.nodeEr M i = 0 then idsO (treeM M u g true) (-1) 101 i 0 else []
theorem walkL_ids (M : List V.Nd) (u g i : Int) (s : ByteArray) : ((walkL (treeM M u g true) (V.nodeEr M) (-1) i s).filter firstB).map Vis.id = startIds M u g i := by
  unfold walkL startIds
  split
  · exact walk_ids _ _ 101 _ rfl rfl
  · rfl
theorem walkL_mem {M : List V.Nd} {u g i : Int} {s : ByteArray} {x : Vis} (h : x ∈ walkL (treeM M u g true) (V.nodeEr M) (-1) i s) : V.nodeEr M i = 0 ∧ x ∈ walkV (treeM M u g true) (-1) 101 (firstV i s) := by
  unfold walkL at h
  split at h
  · rename_i q
    exact ⟨q, h⟩
  · cases h
structure VisOk (M : List V.Nd) (s : ByteArray) (x : Vis) : Prop where
  deep : 0 ≤ x.depth ∧ x.depth ≤ 100
  name : x.name.size ≤ s.size + 101 * 256
  val : firstB x = true → Val M x.id
theorem walkL_ok {M : List V.Nd} (hG : G.Good M) {u g i : Int} {s : ByteArray} {x : Vis} (h : x ∈ walkL (treeM M u g true) (V.nodeEr M) (-1) i s) : VisOk M s x := by
  obtain ⟨h0, hx⟩ := walkL_mem h
  refine ⟨⟨?_, walk_high _ _ 101 _ (show (0 : Int) ≤ 100 by decide) x hx⟩, (hG.walk u g true (-1) (firstV i s) 101).2 x hx, fun hf => ?_⟩
  · exact walk_deep _ _ 101 _ x hx
  · have hi : x.id ∈ idsO (treeM M u g true) (-1) 101 i 0 := by
      have e := walk_ids (treeM M u g true) (-1) 101 (firstV i s) rfl rfl
      show x.id ∈ idsO (treeM M u g true) (-1) 101 (firstV i s).id (firstV i s).depth
      rw [← e]
      exact List.mem_map.2 ⟨x, List.mem_filter.2 ⟨hx, hf⟩, rfl⟩
    exact val_reach hG.ri (ids_reach _ _ _ _ _ _ hi) (val_over hG.ri (val_of_er h0))
theorem walkL_len {M : List V.Nd} (hG : G.Good M) (u g i : Int) (s : ByteArray) : (walkL (treeM M u g true) (V.nodeEr M) (-1) i s).length ≤ 120301 := by
  unfold walkL
  split
  · exact (hG.walk u g true (-1) (firstV i s) 101).1
  · exact Nat.zero_le _
/-! ### what a visit counts -/
theorem first_iff (x : Vis) : firstB x = true ↔ x.over = false ∧ x.err = 0 := by
  unfold firstB
  rw [Bool.and_eq_true, decide_eq_true_eq, Bool.not_eq_true']
/-- One visit more, of those that were first ones. -/
def idsV (l : List Vis) : List Int := (l.filter firstB).map Vis.id
theorem idsV_snoc (l : List Vis) (x : Vis) : idsV (l ++ [x]) = if firstB x = true then idsV l ++ [x.id] else idsV l := by
  unfold idsV
  rw [List.filter_append, List.map_append]
  split
  · rename_i q; rw [List.filter_cons, if_pos q]; rfl
  · rename_i q; rw [List.filter_cons, if_neg q]; exact List.append_nil _
theorem take_is {M : List V.Nd} (H : V.DevInv M) {Hw : How} {ids : List Int} (hv : ∀ i ∈ ids, Val M i) {x : Vis} (hx : firstB x = true → Val M x.id) {K' : List Value} {wh' : Int}
    (h : TakeZ Hw (keysM M ids) (cntZ Hw.each (blkI M) ids) x (V.nvAt M x.id) K' wh') :
    K' = keysM M (ids ++ idsV [x]) ∧ wh' = cntZ Hw.each (blkI M) (ids ++ idsV [x]) ∧ ∀ i ∈ ids ++ idsV [x], Val M i := by
  have e := idsV_snoc [] x
  rw [List.nil_append] at e
  rw [e]
  by_cases q : firstB x = true
  · rw [if_pos q]
    obtain ⟨h1, h2⟩ := h.1 ((first_iff x).1 q)
    have hm := keys_mem H hv (hx q)
    refine ⟨?_, ?_, ?_⟩
    · rw [h1]; exact (keys_snoc M ids x.id).symm
    · show wh' = cntZ Hw.each (blkI M) (ids ++ [x.id])
      rw [cnt_snoc]
      by_cases c : Hw.each = false ∧ x.id ∈ ids
      · rw [if_pos c]
        exact h2.1 ⟨hm.2 c.2, c.1⟩
      · rw [if_neg c]
        exact h2.2 fun z => c ⟨z.2, hm.1 z.1⟩
    · intro i hi
      rcases List.mem_append.1 hi with hi | hi
      · exact hv i hi
      · obtain rfl : i = x.id := by simpa [idsV] using hi
        exact hx q
  · rw [if_neg q]
    obtain ⟨h1, h2⟩ := h.2 fun z => q ((first_iff x).2 z)
    have e0 : ids ++ idsV [] = ids := List.append_nil _
    rw [e0]
    exact ⟨h1, h2, hv⟩
end Go.Proofs.YtpikndeefiediaaGreatDoor.U
