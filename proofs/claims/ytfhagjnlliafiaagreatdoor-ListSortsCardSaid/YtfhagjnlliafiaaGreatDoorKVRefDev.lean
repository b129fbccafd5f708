/-
  The reference's file system in memory.
  Conditions: each fact's own.
-/
import Derived.Test.YtfhagjnlliafiaaGreatDoorKVNames
import Derived.Deep.QuietTactic
import Derived.BigQuiet
import Derived.Laws.AppendOwnNone
import Derived.Deep.RegionLaw
import Derived.Deep.CutRange
import Derived.Deep.WholeRow
import Derived.Deep.MidRow
set_option linter.unusedSimpArgs false
set_option linter.unusedVariables false
set_option maxHeartbeats 4000000
set_option maxRecDepth 100000
namespace Go.Proofs.YtfhagjnlliafiaaGreatDoor.V
open Go.RowKit
def Nd.bare (n : Nd) : List Value := [.int .i64 n.dev, .int .i64 n.ino, .int .i64 n.kind, .int .i64 n.mode, .int .i64 n.uid, .int .i64 n.gid, .int .i64 n.size, .int .i64 n.blocks, .int .i64 0, .int .i64 n.t0, .int .i64 n.t1, .int .i64 n.t2, .string n.target]
theorem bare_len (n : Nd) : n.bare.length = 13 := rfl
def bares : List Nd → List Value
  | [] => []
  | n :: r => n.bare ++ bares r
structure It where
  at_ : Int
  name : ByteArray
  id : Int
def itCells : List It → List Value
  | [] => []
  | x :: r => .int .i64 x.at_ :: .string x.name :: .int .i64 x.id :: itCells r
def cov (i : Nat) (n : Nd) : Int := if n.over = (i : Int) then -1 else n.over
def covs : List Nd → Nat → List Value
  | [], _ => []
  | n :: r, i => .int .i64 (cov i n) :: covs r (i + 1)
def deads (M : List Nd) : List Value := M.map fun n => .bool n.dead
def ups (M : List Nd) : List Value := M.map fun n => .int .i64 n.up
theorem bares_len : ∀ M, (bares M).length = M.length * 13
  | [] => rfl
  | n :: r => by rw [bares, List.length_append, bare_len, bares_len r, List.length_cons]; omega
theorem bares_append : ∀ a b, bares (a ++ b) = bares a ++ bares b
  | [], b => rfl
  | n :: r, b => by rw [List.cons_append, bares, bares, bares_append r b, List.append_assoc]
theorem bares_one (n : Nd) : bares [n] = n.bare := by rw [bares, bares, List.append_nil]
theorem bares_get : ∀ (M : List Nd) (i k : Nat) (n : Nd), M[i]? = some n → k < 13 → (bares M)[i * 13 + k]? = n.bare[k]?
  | [], i, k, n, h, _ => by simp at h
  | m :: r, 0, k, n, h, hk => by
    simp at h
    subst h
    rw [bares, Nat.zero_mul, Nat.zero_add, List.getElem?_append_left (by rw [bare_len]; exact hk)]
  | m :: r, i + 1, k, n, h, hk => by
    have h' : r[i]? = some n := by simpa using h
    rw [bares, List.getElem?_append_right (by rw [bare_len]; omega), bare_len, show (i + 1) * 13 + k - 13 = i * 13 + k by omega]
    exact bares_get r i k n h' hk
theorem bares_set : ∀ (M : List Nd) (i k : Nat) (n n' : Nd) (u : Value), M[i]? = some n → k < 13 → n'.bare = n.bare.set k u → (bares M).set (i * 13 + k) u = bares (M.set i n')
  | [], i, k, n, n', u, h, _, _ => by simp at h
  | m :: r, 0, k, n, n', u, h, hk, hs => by
    simp at h
    subst h
    rw [bares, Nat.zero_mul, Nat.zero_add, List.set_append_left _ _ (by rw [bare_len]; exact hk), ← hs]
    rfl
  | m :: r, i + 1, k, n, n', u, h, hk, hs => by
    have h' : r[i]? = some n := by simpa using h
    rw [bares, List.set_append_right _ _ (by rw [bare_len]; omega), bare_len, show (i + 1) * 13 + k - 13 = i * 13 + k by omega, bares_set r i k n n' u h' hk hs]
    rfl
theorem itCells_append : ∀ l m, itCells (l ++ m) = itCells l ++ itCells m
  | [], m => rfl
  | x :: r, m => by rw [List.cons_append, itCells, itCells, itCells_append r m]; rfl
theorem itCells_get : ∀ (l : List It) (i : Nat) (x : It), l[i]? = some x → (itCells l)[i * 3]? = some (.int .i64 x.at_) ∧ (itCells l)[i * 3 + 1]? = some (.string x.name) ∧ (itCells l)[i * 3 + 2]? = some (.int .i64 x.id)
  | [], i, x, h => by simp at h
  | y :: r, 0, x, h => by simp at h; subst h; exact ⟨rfl, rfl, rfl⟩
  | y :: r, i + 1, x, h => by
    have h' : r[i]? = some x := by simpa using h
    have := itCells_get r i x h'
    rw [itCells, show (i + 1) * 3 = i * 3 + 1 + 1 + 1 by omega]
    exact this
theorem covs_len : ∀ M i, (covs M i).length = M.length
  | [], i => rfl
  | n :: r, i => by rw [covs, List.length_cons, covs_len r, List.length_cons]
theorem covs_append : ∀ a b i, covs (a ++ b) i = covs a i ++ covs b (i + a.length)
  | [], b, i => by simp [covs]
  | n :: r, b, i => by rw [List.cons_append, covs, covs, covs_append r b, List.length_cons, show i + 1 + r.length = i + (r.length + 1) by omega]; rfl
theorem covs_get : ∀ (M : List Nd) (b i : Nat) (n : Nd), M[i]? = some n → (covs M b)[i]? = some (.int .i64 (cov (b + i) n))
  | [], b, i, n, h => by simp at h
  | m :: r, b, 0, n, h => by simp at h; subst h; rfl
  | m :: r, b, i + 1, n, h => by
    have h' : r[i]? = some n := by simpa using h
    rw [covs, List.getElem?_cons_succ, covs_get r (b + 1) i n h', show b + 1 + i = b + (i + 1) by omega]
structure Rv where
  n : Value
  l : Value
  c : Value
  d : Value
  a : Value
  f : Value
def rvV (v : Rv) : Value := .agg #[v.n, v.l, v.c, v.d, v.a, v.f]
structure Rs (M : List Nd) (L : List It) (v : Rv) (w : World) : Prop where
  hn : w.ownsRow 0 63 13 v.n M.length (bares M)
  hl : w.ownsRow 0 94 3 v.l L.length (itCells L)
  hc : w.ownsRow 0 3 1 v.c M.length (covs M 0)
  hd : w.ownsRow 0 4 1 v.d M.length (deads M)
  ha : w.ownsRow 0 3 1 v.a M.length (ups M)
  hf : w.ownsRow 0 3 1 v.f (devL M 0).length (ints (devL M 0))
theorem owns_keep {w w' : World} {e : TypeId} {size n : Nat} {v : Value} {xs : List Value} (h : w.ownsRow 0 e size v n xs) (hb : Below w.heap.size w w') : w'.ownsRow 0 e size v n xs := owns_at h fun k hk => hb.block k (h.lt k hk).2
theorem Rs.keep {M : List Nd} {L : List It} {v : Rv} {w w' : World} (h : Rs M L v w) (hb : Below w.heap.size w w') : Rs M L v w' :=
  ⟨owns_keep h.hn hb, owns_keep h.hl hb, owns_keep h.hc hb, owns_keep h.hd hb, owns_keep h.ha hb, owns_keep h.hf hb⟩
theorem Rs.forms {M : List Nd} {L : List It} {v : Rv} {w : World} (h : Rs M L v w) :
    ∃ an cn al cl ac cc ad cd aa ca af cf, v = ⟨.slice an M.length cn, .slice al L.length cl, .slice ac M.length cc, .slice ad M.length cd, .slice aa M.length ca, .slice af (devL M 0).length cf⟩ := by
  obtain ⟨n, l, c, d, a, f⟩ := v
  obtain ⟨an, cn, hn⟩ := owns_form h.hn
  obtain ⟨al, cl, hl⟩ := owns_form h.hl
  obtain ⟨ac, cc, hc⟩ := owns_form h.hc
  obtain ⟨ad, cd, hd⟩ := owns_form h.hd
  obtain ⟨aa, ca, ha⟩ := owns_form h.ha
  obtain ⟨af, cf, hf⟩ := owns_form h.hf
  refine ⟨an, cn, al, cl, ac, cc, ad, cd, aa, ca, af, cf, ?_⟩
  simp only at hn hl hc hd ha hf
  rw [hn, hl, hc, hd, ha, hf]
theorem bits_any (m : Int) (w : World) :
    Calls Tryz.prog 41 #[.int .i64 m] w fun e w' => e = .returned (.int .i64 (m % 4096)) ∧ w = w' := by
  obtain ⟨r, hr, r0, r1⟩ : ∃ r, Int.tmod m 4096 = r ∧ -4096 < r ∧ r < 4096 := ⟨_, rfl, by have := Int.lt_tmod_of_pos m (show (0 : Int) < 4096 by decide); omega, Int.tmod_lt_of_pos m (by decide)⟩
  have HE := Lib.hid (show (r + 4096) % 4096 = m % 4096 from by rw [← hr, Int.tmod_eq_emod]; split <;> omega)
  have hq : Int.tmod (r + 4096) 4096 = m % 4096 := by rw [Int.tmod_eq_emod_of_nonneg (by omega)]; exact HE.out
  go_enter Tryz.func41, Tryz.ntmps41
  go_wp2
  go_ret
  exact ⟨rfl, rfl⟩
theorem refHas_any (M : List Nd) (L : List It) (v : Rv) (i : Int) (w : World) (H : Rs M L v w) :
    Calls Tryz.prog 13 #[rvV v, .int .i64 i] w fun e w' => e = .returned (.bool (decide (0 ≤ i ∧ i < (M.length : Int)))) ∧ Below w.heap.size w w' := by
  obtain ⟨an, cn, al, cl, ac, cc, ad, cd, aa, ca, af, cf, rfl⟩ := H.forms
  have HB := Lib.hid (show decide (0 ≤ i ∧ i < (M.length : Int)) = (decide (0 ≤ i) && decide (i < (M.length : Int))) from by simp)
  have HBa := Lib.hid (show ∀ o, Below w.heap.size w (w.alloc o) from fun o => (Below.refl _ _).alloc (Nat.le_refl _) _)
  clear H
  unfold rvV
  rcases Classical.em (0 ≤ i) with hi | hi
  · have d1 : decide (0 ≤ i) = true := decide_eq_true hi
    go_enter Tryz.func13, Tryz.ntmps13
    go_wp2
    go_ret
    exact ⟨ret_bool (by first | rfl | (rw [HB.out, d1]; rfl)), HBa.out _⟩
  · have d1 : decide (0 ≤ i) = false := decide_eq_false hi
    go_enter Tryz.func13, Tryz.ntmps13
    go_wp2
    go_ret
    exact ⟨ret_bool (by first | rfl | (rw [HB.out, d1]; rfl)), HBa.out _⟩
theorem owns_int {w : World} {v : Value} {l : List Int} {e : TypeId} (h : w.ownsRow 0 e 1 v l.length (ints l)) {k : Nat} (hk : k < l.length) : ∃ g cap, v = .slice (some ⟨g, 0, none⟩) l.length cap ∧ w.cell? ⟨g, k, none⟩ = some (.int .i64 (l[k]'hk)) ∧ g < w.heap.size := by
  obtain ⟨g, cap, rfl, _, _⟩ := owns_some h (by omega)
  refine ⟨g, cap, rfl, owns_cell h (by unfold ints; rw [List.getElem?_map, List.getElem?_eq_getElem hk]; rfl), (h.lt g rfl).2⟩
def FirstRel (l : List Int) (i : Int) (w : World) (v : Value) (wr : World) : Prop := ∃ k : Nat, k ≤ l.length ∧ v = .int .i64 (k : Int) ∧ wr = w ∧ ∀ j (hj : j < l.length), j < k → l[j] ≠ i
theorem first_any (M : List Nd) (L : List It) (v : Rv) (i : Int) (w : World) (H : Rs M L v w) (hM : M.length ≤ 1000000) :
    Calls Tryz.prog 70 #[rvV v, .int .i64 i] w fun e w' => e = .returned (.bool (decide (i ∈ devL M 0))) ∧ Below w.heap.size w w' := by
  have hdl := devL_len M 0
  have hf := H.hf
  obtain ⟨an, cn, al, cl, ac, cc, ad, cd, aa, ca, af, cf, rfl⟩ := H.forms
  generalize devL M 0 = l at *
  have HF := Lib.hid hf
  have HBa := Lib.hid (show ∀ o, Below w.heap.size w (w.alloc o) from fun o => (Below.refl _ _).alloc (Nat.le_refl _) _)
  clear H hf
  unfold rvV
  go_enter Tryz.func70, Tryz.ntmps70
  go_wp2
  generalize hw2 : w.alloc (.cells #[.slice an M.length cn, .slice al L.length cl, .slice ac M.length cc, .slice ad M.length cd, .slice aa M.length ca, .slice af l.length cf] 36) = w2
  have b2 : Below w.heap.size w w2 := by rw [← hw2]; exact HBa.out _
  have q5 : w2.cell? ⟨w.heap.size, 5, none⟩ = some (.slice af l.length cf) := by rw [← hw2, cell_of_row _ _ _ _ _ _ (heap_alloc_new _ _)]; rfl
  have HF2 := Lib.hid (owns_keep HF.out b2)
  have HB2 := Lib.hid b2
  clear hw2 b2
  go_loopw [5] (FirstRel l i w2) (fun v _ => l.length - (intOf v).toNat)
  case atStart => exact ⟨0, Nat.zero_le _, rfl, rfl, fun j _ hj => by omega⟩
  case round =>
    obtain ⟨k, hk, rfl, rfl, hno⟩ := hrel
    have HN := Lib.hid hno
    clear hno
    by_cases hlt : k < l.length
    · obtain ⟨g, cap, hv, hc, _⟩ := owns_int HF2.out hlt
      simp only [Value.slice.injEq, true_and] at hv
      obtain ⟨rfl, rfl⟩ := hv
      obtain ⟨y, hy⟩ : ∃ y, l[k]'hlt = y := ⟨_, rfl⟩
      rw [hy] at hc
      have HY := Lib.hid hy
      clear hy
      by_cases he : y = i
      · have e1 : (y == i) = true := by simp [he]
        have HM := Lib.hid (show i ∈ l from by rw [← he, ← HY.out]; exact List.getElem_mem _)
        clear he
        go_wp2
        go_ret
        exact ⟨ret_bool (decide_eq_true HM.out).symm, HB2.out⟩
      · have e1 : (y == i) = false := by simp [he]
        have HE := Lib.hid he
        clear he
        go_wp2
        go_roundw
        case rel =>
          refine ⟨k + 1, by omega, by simp, rfl, fun j hj hjk => ?_⟩
          rcases Nat.lt_or_ge j k with q | q
          · exact HN.out j hj q
          · have : j = k := by omega
            subst this
            rw [HY.out]
            exact HE.out
        case measure => simp [intOf]; omega
    · have HM := Lib.hid (show ¬ i ∈ l from fun e => by
        obtain ⟨j, hj, e⟩ := List.getElem_of_mem e
        exact HN.out j hj (by omega) e)
      go_wp2
      go_ret
      exact ⟨ret_bool (decide_eq_false HM.out).symm, HB2.out⟩
end Go.Proofs.YtfhagjnlliafiaaGreatDoor.V
namespace Go.Proofs.YtfhagjnlliafiaaGreatDoor.V
open Go.RowKit
section
variable {P : Program} {w : World}
theorem wp_append_row {o : Oper} {a : Act} {K : Act → World → Prop} {Q : Exit → Act → World → Prop} (s x : Operand) (t : TypeId)
    (ho : o.op = .call { callee := .builtin .append, args := #[s, x], argTypes := #[t, t] })
    (base : Nat) (e : TypeId) (i : TypeInfo) (z : Value) (size bytes : Nat) (ht : P.underlying t = some (.slice e)) (hi : P.info? e = some i) (hz : i.zero = some z)
    (hsize : i.size = size) (hby : i.bytes = bytes) (hzs : z.cells.size = size) (hsz : 0 < size)
    (v : Value) (n : Nat) (xs : List Value) (hs : a.eval s = v) (hown : w.ownsRow base e size v n xs) (u : Value) (m : Nat) (ys : List Value) (hx : a.eval x = u) (hsrc : w.ownsRow 0 e size u m ys) (h1 : ∀ y ∈ ys, y.oneCell' = true)
    (h63 : n + m ≤ maxLen) (hbytes : (n + m) * bytes ≤ 140737488355328) (hbase : base ≤ w.heap.size)
    (h : ∀ v' w', w'.ownsRow base e size v' (n + m) (xs ++ ys) → w.grownBy w' v.ownBlock → K (a.put o.dst v') w') : o.wp P a w K Q := by
  rcases hsrc.2 with ⟨rfl, rfl⟩ | ⟨g, cap, cur, rfl, _⟩
  · have hy : ys = [] := List.eq_nil_of_length_eq_zero (by simpa using hsrc.1)
    subst hy
    have hrun := run_append_owned_none (P := P) (w := w) base t o.type e i size ht hi v n xs hown
    unfold Oper.wp
    simp [execOp, ho, resolve, invoke, builtin, hs, hx, hrun, Result.andThen]
    exact h _ _ (by simpa using hown) ⟨rfl, rfl, rfl, Nat.le_refl _, fun _ _ _ => rfl⟩
  · exact wp_append_own w s x t ho base e i z size bytes ht hi hz hsize hby hzs hsz v n xs hs hown ⟨g, 0, none⟩ m cap ys hx hsrc.1 (hsrc.cells rfl) h1 h63 hbytes hbase (fun v' w' p q _ => h v' w' p q)
theorem wpList_append_row {ops : Array Oper} {rest : List Oper} {o : Oper} {a : Act} {Q : Exit → Act → World → Prop} (hgd : o.guard = none) (s x : Operand) (t : TypeId)
    (ho : o.op = .call { callee := .builtin .append, args := #[s, x], argTypes := #[t, t] })
    (base : Nat) (e : TypeId) (i : TypeInfo) (z : Value) (size bytes : Nat) (ht : P.underlying t = some (.slice e)) (hi : P.info? e = some i) (hz : i.zero = some z)
    (hsize : i.size = size) (hby : i.bytes = bytes) (hzs : z.cells.size = size) (hsz : 0 < size)
    (v : Value) (n : Nat) (xs : List Value) (hs : a.eval s = v) (hown : w.ownsRow base e size v n xs) (u : Value) (m : Nat) (ys : List Value) (hx : a.eval x = u) (hsrc : w.ownsRow 0 e size u m ys) (h1 : ∀ y ∈ ys, y.oneCell' = true)
    (h63 : n + m ≤ maxLen) (hbytes : (n + m) * bytes ≤ 140737488355328) (hbase : base ≤ w.heap.size)
    (h : ∀ v' w', w'.ownsRow base e size v' (n + m) (xs ++ ys) → w.grownBy w' v.ownBlock → wpList P ops Q rest (a.put o.dst v') w') : wpList P ops Q (o :: rest) a w :=
  wpList_plain hgd fun _ hK => wp_append_row s x t ho base e i z size bytes ht hi hz hsize hby hzs hsz v n xs hs hown u m ys hx hsrc h1 h63 hbytes hbase fun v' w' p q => hK _ _ (h v' w' p q)
theorem step_append_row {ops : Array Oper} {o : Oper} {a : Act} {K : Act → World → Prop} {Q : Exit → Act → World → Prop} {E : Prop} (hgd : o.guard = none) (s x : Operand) (t : TypeId)
    (ho : o.op = .call { callee := .builtin .append, args := #[s, x], argTypes := #[t, t] })
    (base : Nat) (e : TypeId) (i : TypeInfo) (z : Value) (size bytes : Nat) (ht : P.underlying t = some (.slice e)) (hi : P.info? e = some i) (hz : i.zero = some z)
    (hsize : i.size = size) (hby : i.bytes = bytes) (hzs : z.cells.size = size) (hsz : 0 < size)
    (v : Value) (n : Nat) (xs : List Value) (hs : a.eval s = v) (hown : w.ownsRow base e size v n xs) (u : Value) (m : Nat) (ys : List Value) (hx : a.eval x = u) (hsrc : w.ownsRow 0 e size u m ys) (h1 : ∀ y ∈ ys, y.oneCell' = true)
    (h63 : n + m ≤ maxLen) (hbytes : (n + m) * bytes ≤ 140737488355328) (hbase : base ≤ w.heap.size)
    (h : ∀ v' w', w'.ownsRow base e size v' (n + m) (xs ++ ys) → w.grownBy w' v.ownBlock → K (a.put o.dst v') w') :
    if Region.wanted o (yielded ops a.tmps) = true then Oper.wp P o a w K Q else E := by
  have hw : Region.wanted o (yielded ops a.tmps) = true := by simp [Region.wanted, hgd]
  rw [if_pos hw]
  exact wp_append_row s x t ho base e i z size bytes ht hi hz hsize hby hzs hsz v n xs hs hown u m ys hx hsrc h1 h63 hbytes hbase h
end
structure But (b : Nat) (w w' : World) : Prop where
  os : w'.os = w.os
  tape : w'.tape = w.tape
  output : w'.output = w.output
  size : w.heap.size ≤ w'.heap.size
  block : ∀ k, k < w.heap.size → k ≠ b → w'.heap[k]? = w.heap[k]?
theorem But.owns {b : Nat} {w w' : World} (h : But b w w') {e : TypeId} {size n : Nat} {v : Value} {xs : List Value} (ho : w.ownsRow 0 e size v n xs) {arr : Array Value} {T : TypeId} {fr : Nat × Nat} (hb : w.heap[b]? = some (.cells arr T fr)) (hT : e ≠ T) : w'.ownsRow 0 e size v n xs :=
  owns_at ho fun k hk => h.block k (ho.lt k hk).2 (fun q => by
    subst q
    obtain ⟨cur, hc⟩ := owns_type ho hk
    rw [hb] at hc
    simp at hc
    exact hT hc.2.1.symm)
theorem But.below {b B : Nat} {w0 w w' : World} (h : But b w w') (h0 : Below B w0 w) (hB : B ≤ b) (hw : B ≤ w.heap.size) : Below B w0 w' :=
  h0.trans ⟨h.os, h.tape, h.output, h.size, fun k hk => h.block k (by omega) (by omega)⟩
theorem grown_old {A B : World} {row : Option Nat} {base k : Nat} (hg : A.grownBy B row) (hr : ∀ j, row = some j → base ≤ j) (hk : k < A.heap.size) (hb : k < base) : B.heap[k]? = A.heap[k]? :=
  hg.block k hk (fun e => by have := hr k e.symm; omega)
theorem app_two {W W1 W2 : World} {o1 o2 : Obj} {r1 r2 : Option Nat} {b k : Nat} {v : Value} (h1 : (W.alloc o1).grownBy W1 r1) (h2 : (W1.alloc o2).grownBy W2 r2) (hr1 : ∀ j, r1 = some j → W.heap.size ≤ j) (hr2 : ∀ j, r2 = some j → W.heap.size ≤ j)
    {arr : Array Value} {T : TypeId} (hb : W.heap[b]? = some (.cells arr T (0, 0))) :
    W2.heap[b]? = some (.cells arr T (0, 0)) ∧ But b W (W2.setCell ⟨b, k, none⟩ v) ∧ (W2.setCell ⟨b, k, none⟩ v).heap[b]? = some (.cells (arr.setIfInBounds k v) T (0, 0)) := by
  have hbl := heap_lt hb
  have s1 : W.heap.size ≤ W1.heap.size := Nat.le_trans (by simp) h1.size
  have s2 : W1.heap.size ≤ W2.heap.size := Nat.le_trans (by simp) h2.size
  have keep : ∀ j, j < W.heap.size → W2.heap[j]? = W.heap[j]? := fun j hj => by
    rw [grown_old h2 hr2 (by simp; omega) hj, heap_alloc_old _ _ (by omega), grown_old h1 hr1 (by simp; omega) hj, heap_alloc_old _ _ hj]
  have hb2 : W2.heap[b]? = some (.cells arr T (0, 0)) := (keep b hbl).trans hb
  refine ⟨hb2, ⟨?_, ?_, ?_, ?_, ?_⟩, heap_setCell_same _ _ _ _ _ _ hb2⟩
  · exact h2.os.trans h1.os
  · exact h2.tape.trans h1.tape
  · exact h2.output.trans h1.output
  · rw [size_setCell]; omega
  · intro j hj hjb
    rw [heap_setCell_other _ _ _ _ (by exact hjb)]
    exact keep j hj
theorem app_two' {W W1 W2 : World} {o1 o2 : Obj} {r1 r2 : Option Nat} {b k : Nat} {v : Value} (h1 : ((W.alloc o1).alloc o2).grownBy W1 r1) (h2 : W1.grownBy W2 r2) (hr1 : ∀ j, r1 = some j → W.heap.size ≤ j) (hr2 : ∀ j, r2 = some j → W.heap.size ≤ j)
    {arr : Array Value} {T : TypeId} (hb : W.heap[b]? = some (.cells arr T (0, 0))) :
    W2.heap[b]? = some (.cells arr T (0, 0)) ∧ But b W (W2.setCell ⟨b, k, none⟩ v) ∧ (W2.setCell ⟨b, k, none⟩ v).heap[b]? = some (.cells (arr.setIfInBounds k v) T (0, 0)) := by
  have hbl := heap_lt hb
  have s1 : W.heap.size ≤ W1.heap.size := Nat.le_trans (by simp; omega) h1.size
  have s2 : W1.heap.size ≤ W2.heap.size := h2.size
  have keep : ∀ j, j < W.heap.size → W2.heap[j]? = W.heap[j]? := fun j hj => by
    rw [grown_old h2 hr2 (by omega) hj, grown_old h1 hr1 (by simp; omega) hj, heap_alloc_old _ _ (by simp; omega), heap_alloc_old _ _ hj]
  have hb2 : W2.heap[b]? = some (.cells arr T (0, 0)) := (keep b hbl).trans hb
  refine ⟨hb2, ⟨?_, ?_, ?_, ?_, ?_⟩, heap_setCell_same _ _ _ _ _ _ hb2⟩
  · exact h2.os.trans h1.os
  · exact h2.tape.trans h1.tape
  · exact h2.output.trans h1.output
  · rw [size_setCell]; omega
  · intro j hj hjb
    rw [heap_setCell_other _ _ _ _ (by exact hjb)]
    exact keep j hj
theorem owns_made {W : World} {e : TypeId} {size base : Nat} (hb : base ≤ W.heap.size) : (W.alloc (.cells #[] e)).ownsRow base e size (.slice (some ⟨W.heap.size, 0, none⟩) 0 0) 0 [] := World.ownsRow_made W #[] 0 hb (by decide) (by simp)
theorem own_ge {w : World} {base : Nat} {e : TypeId} {size n : Nat} {v : Value} {xs : List Value} (h : w.ownsRow base e size v n xs) : ∀ j, v.ownBlock = some j → base ≤ j := fun j hj => (h.lt j hj).1
theorem owns_single {W : World} {e : TypeId} {xs : List Value} (size : Nat) (hs : xs.length = size) : (W.alloc (.cells xs.toArray e)).ownsRow 0 e size (.slice (some ⟨W.heap.size, 0, none⟩) 1 1) 1 xs :=
  ⟨by omega, .inr ⟨W.heap.size, 1, xs.toArray, rfl, Nat.zero_le _, heap_alloc_new _ _, Nat.le_refl _, by decide, by simp [hs], by simp; exact List.take_of_length_le (by omega)⟩⟩
theorem owns_set {W2 : World} {b k base : Nat} {e : TypeId} {size n : Nat} {v u : Value} {xs : List Value} (h : W2.ownsRow base e size v n xs) (hb : b < base) : (W2.setCell ⟨b, k, none⟩ u).ownsRow 0 e size v n xs := by
  obtain ⟨h1, h2⟩ := h
  refine ⟨h1, ?_⟩
  rcases h2 with q | ⟨g, cap, cur, rfl, hg, hh, rest⟩
  · exact .inl q
  · exact .inr ⟨g, cap, cur, rfl, Nat.zero_le _, by rw [heap_setCell_other _ _ _ _ (show g ≠ b by omega)]; exact hh, rest⟩
theorem bares_one' (M : List Nd) : ∀ u ∈ bares M, u.oneCell' = true := by
  induction M with
  | nil => intro u hu; cases hu
  | cons n r ih =>
    intro u hu
    rcases List.mem_append.1 hu with q | q
    · simp only [Nd.bare, List.mem_cons, List.mem_nil_iff, or_false] at q
      rcases q with rfl | rfl | rfl | rfl | rfl | rfl | rfl | rfl | rfl | rfl | rfl | rfl | rfl
      all_goals rfl
    · exact ih u q
theorem covs_one : ∀ (M : List Nd) (i : Nat), ∀ u ∈ covs M i, u.oneCell' = true
  | [], i, u, hu => by cases hu
  | n :: r, i, u, hu => by
    rcases List.mem_cons.1 hu with rfl | q
    · rfl
    · exact covs_one r (i + 1) u q
theorem deads_one (M : List Nd) : ∀ u ∈ deads M, u.oneCell' = true := fun u hu => by
  obtain ⟨n, _, rfl⟩ := List.mem_map.1 hu
  rfl
theorem ups_one (M : List Nd) : ∀ u ∈ ups M, u.oneCell' = true := fun u hu => by
  obtain ⟨n, _, rfl⟩ := List.mem_map.1 hu
  rfl
theorem ints_one (l : List Int) : ∀ u ∈ ints l, u.oneCell' = true := fun u hu => by
  obtain ⟨n, _, rfl⟩ := List.mem_map.1 hu
  rfl
theorem its_one : ∀ (l : List It), ∀ u ∈ itCells l, u.oneCell' = true
  | [], u, hu => by cases hu
  | x :: r, u, hu => by
    rw [itCells] at hu
    rcases List.mem_cons.1 hu with rfl | q
    · rfl
    rcases List.mem_cons.1 q with rfl | q
    · rfl
    rcases List.mem_cons.1 q with rfl | q
    · rfl
    exact its_one r u q
end Go.Proofs.YtfhagjnlliafiaaGreatDoor.V
namespace Go.Proofs.YtfhagjnlliafiaaGreatDoor.V
open Go.RowKit
def nilsR : Array Value := #[.slice none 0 0, .slice none 0 0, .slice none 0 0, .slice none 0 0, .slice none 0 0, .slice none 0 0]
structure RBox (w wr : World) (v : Rv) (nb : List Value) : Prop where
  below : Below w.heap.size w wr
  box : wr.heap[w.heap.size]? = some (.cells #[v.n, v.l, v.c, v.d, v.a, v.f] 36 (0, 0))
  nbox : wr.heap[w.heap.size + 1]? = some (.cells nb.toArray 63 (0, 0))
  res : wr.heap[w.heap.size + 2]? = some (.cells nilsR 36 (0, 0))
theorem heap3 (w : World) (A B C : Obj) : (((w.alloc A).alloc B).alloc C).heap[w.heap.size]? = some A ∧ (((w.alloc A).alloc B).alloc C).heap[w.heap.size + 1]? = some B ∧ (((w.alloc A).alloc B).alloc C).heap[w.heap.size + 2]? = some C := by
  refine ⟨?_, ?_, ?_⟩
  · rw [heap_alloc_old _ _ (by simp; omega)]; exact heap_alloc2_old _ _ _
  · rw [heap_alloc_old _ _ (by simp)]; exact heap_alloc2_new _ _ _
  · have := heap_alloc_new ((w.alloc A).alloc B) C
    simpa using this
theorem RBox.drewN {w wr : World} {v : Rv} {nb : List Value} (h : RBox w wr v nb) (n : Nat) : RBox w (wr.drewN n) v nb := ⟨below_drewN' h.below, h.box, h.nbox, h.res⟩
theorem RBox.setN {w wr : World} {v : Rv} {nb : List Value} (h : RBox w wr v nb) (k : Nat) (u : Value) : RBox w (wr.setCell ⟨w.heap.size + 1, k, none⟩ u) v (nb.set k u) := by
  refine ⟨h.below.setCell (by show w.heap.size ≤ w.heap.size + 1; omega) _, ?_, ?_, ?_⟩
  · rw [heap_setCell_other _ _ _ _ (by show w.heap.size ≠ w.heap.size + 1; omega)]; exact h.box
  · rw [heap_setCell_same _ _ _ _ _ _ h.nbox, ← List.setIfInBounds_toArray]
  · rw [heap_setCell_other _ _ _ _ (by show w.heap.size + 2 ≠ w.heap.size + 1; omega)]; exact h.res
theorem RBox.but {w wr w' : World} {v v' : Rv} {nb : List Value} (h : RBox w wr v nb) (hb : But w.heap.size wr w') (hx : w'.heap[w.heap.size]? = some (.cells #[v'.n, v'.l, v'.c, v'.d, v'.a, v'.f] 36 (0, 0))) : RBox w w' v' nb :=
  ⟨hb.below h.below (Nat.le_refl _) h.below.size, hx, (hb.block _ (heap_lt h.nbox) (by omega)).trans h.nbox, (hb.block _ (heap_lt h.res) (by omega)).trans h.res⟩
def RAddRel (M : List Nd) (v : Rv) (n : Nd) (w : World) (c : Value) (wr : World) : Prop :=
  ∃ k : Nat, k ≤ M.length ∧ c = .int .i64 (k : Int) ∧ RBox w wr v (Nd.bare { n with ino := 1 + cntD n.dev (M.take k) })
theorem cntD_next {d : Int} {M : List Nd} {k : Nat} {x : Nd} (h : M[k]? = some x) : cntD d (M.take (k + 1)) = cntD d (M.take k) + if x.dev = d then 1 else 0 := by
  rw [List.take_add_one, h, cntD_append]
  simp [cntD]
theorem infoKnown : (Tryz.prog.info? 63).map (fun i => (i.zero, i.size, i.bytes)) = some (some (.agg (Nd.known { dev := 0, ino := 0, kind := 0, mode := 0, uid := 0, gid := 0, size := 0, blocks := 0, links := 0, t0 := 0, t1 := 0, t2 := 0, target := ⟨#[]⟩, dead := false, up := 0, over := 0, ents := [] }).toArray), 13, 112) := by kernel_rfl
theorem infoBool : (Tryz.prog.info? 4).map (fun i => (i.zero, i.size, i.bytes)) = some (some (.bool false), 1, 1) := by kernel_rfl
theorem bare_one (n : Nd) : ∀ u ∈ n.bare, u.oneCell' = true := fun u hu => by
  have := bares_one' [n] u (by rw [bares_one]; exact hu)
  exact this
theorem undrew {w w' : World} {r : Option Nat} (h : w.drew.grownBy w' r) : w.grownBy w' r := ⟨h.os, h.tape, h.output, h.size, h.block⟩
theorem grown_owns {A B : World} {row : Option Nat} {e : TypeId} {size n g l c : Nat} {xs : List Value} (ho : A.ownsRow 0 e size (.slice (some ⟨g, 0, none⟩) l c) n xs) (hg : A.grownBy B row) (hne : row ≠ some g) : B.ownsRow 0 e size (.slice (some ⟨g, 0, none⟩) l c) n xs :=
  ho.kept hg (.inr (fun e => hne e.symm))
theorem hel_b {wr w1 : World} {nn : Nd} {row : Option Nat} {o : Obj} (hg : ((wr.alloc o).alloc (.cells nn.bare.toArray 63)).grownBy w1 row) (hne : row ≠ some (wr.heap.size + 1)) : w1.ownsRow 0 63 13 (.slice (some ⟨wr.heap.size + 1, 0, none⟩) 1 1) 1 nn.bare := by
  have h := owns_single (W := wr.alloc o) (e := 63) (xs := nn.bare) 13 rfl
  have e : (wr.alloc o).heap.size = wr.heap.size + 1 := by simp
  rw [e] at h
  exact grown_owns h hg hne
theorem hel_c {wr w1 : World} {nn : Nd} {row : Option Nat} {o : Obj} (hg : ((wr.alloc (.cells nn.bare.toArray 63)).alloc o).grownBy w1 row) (hne : row ≠ some wr.heap.size) : w1.ownsRow 0 63 13 (.slice (some ⟨wr.heap.size, 0, none⟩) 1 1) 1 nn.bare :=
  grown_owns ((owns_single (W := wr) (e := 63) (xs := nn.bare) 13 rfl).alloc o) hg hne
theorem own_c (wr : World) (o : Obj) {e : TypeId} {size : Nat} : ((wr.alloc o).alloc (.cells #[] e)).ownsRow wr.heap.size e size (.slice (some ⟨wr.heap.size + 1, 0, none⟩) 0 0) 0 [] := by
  have h := owns_made (W := wr.alloc o) (e := e) (size := size) (base := wr.heap.size) (by simp)
  have e : (wr.alloc o).heap.size = wr.heap.size + 1 := by simp
  rw [e] at h
  exact h
theorem one_ge {n j : Nat} {m : Nat} (hn : m ≤ n) (h : (Value.slice (some ⟨n, 0, none⟩) 0 0).ownBlock = some j) : m ≤ j := by
  rw [own_some, Option.some.injEq] at h
  omega
def ROwn (wx : World) (v : Rv) (mN : Nat) (xN : List Value) (mL : Nat) (xL : List Value) (mC : Nat) (xC : List Value) (mD : Nat) (xD : List Value) (mA : Nat) (xA : List Value) (mF : Nat) (xF : List Value) : Prop :=
  wx.ownsRow 0 63 13 v.n mN xN ∧ wx.ownsRow 0 94 3 v.l mL xL ∧ wx.ownsRow 0 3 1 v.c mC xC ∧ wx.ownsRow 0 4 1 v.d mD xD ∧ wx.ownsRow 0 3 1 v.a mA xA ∧ wx.ownsRow 0 3 1 v.f mF xF
theorem rown_forms {wx : World} {v : Rv} {mN mL mC mD mA mF : Nat} {xN xL xC xD xA xF : List Value} (h : ROwn wx v mN xN mL xL mC xC mD xD mA xA mF xF) :
    ∃ an cn al cl ac cc ad cd aa ca af cf, v = ⟨.slice an mN cn, .slice al mL cl, .slice ac mC cc, .slice ad mD cd, .slice aa mA ca, .slice af mF cf⟩ := by
  obtain ⟨n, l, c, d, a, f⟩ := v
  obtain ⟨an, cn, hn⟩ := owns_form h.1
  obtain ⟨al, cl, hl⟩ := owns_form h.2.1
  obtain ⟨ac, cc, hc⟩ := owns_form h.2.2.1
  obtain ⟨ad, cd, hd⟩ := owns_form h.2.2.2.1
  obtain ⟨aa, ca, ha⟩ := owns_form h.2.2.2.2.1
  obtain ⟨af, cf, hf⟩ := owns_form h.2.2.2.2.2
  refine ⟨an, cn, al, cl, ac, cc, ad, cd, aa, ca, af, cf, ?_⟩
  simp only at hn hl hc hd ha hf
  rw [hn, hl, hc, hd, ha, hf]
theorem sizeRef : (Tryz.prog.info? 36).map (·.size) = some 6 := by kernel_rfl
theorem one6 (a b c d e f : Option Addr) (n1 n2 n3 n4 n5 n6 c1 c2 c3 c4 c5 c6 : Nat) : (#[.slice a n1 c1, .slice b n2 c2, .slice c n3 c3, .slice d n4 c4, .slice e n5 c5, .slice f n6 c6] : Array Value).all (·.oneCell') = true := by
  simp [Value.oneCell']
theorem but_setRow {w : World} {b : Nat} {old : Array Value} {T : TypeId} (h : w.heap[b]? = some (.cells old T (0, 0))) (cs : Array Value) : But b w (w.setRow b cs) :=
  ⟨rfl, rfl, rfl, by rw [setRow_size]; exact Nat.le_refl _, fun k hk hn => setRow_other w b k cs hn⟩
theorem rfld {w wc w1 w2 : World} {v : Rv} {nb : List Value} (H : RBox w wc v nb) {T : TypeId} {sz n : Nat} {xs el : List Value} {v1 : Value} {g cap : Nat} {o : Obj} (k : Nat) {u : Value} (hu : (#[v.n, v.l, v.c, v.d, v.a, v.f] : Array Value)[k]? = some u)
    (hg1 : (wc.alloc (.cells #[] T)).grownBy w1 (Value.slice (some ⟨wc.heap.size, 0, none⟩) 0 0).ownBlock) (h1 : w1.ownsRow wc.heap.size T sz v1 (0 + n) ([] ++ xs))
    (h2 : w2.ownsRow wc.heap.size T sz (.slice (some ⟨g, 0, none⟩) (0 + n + 1) cap) (0 + n + 1) ([] ++ xs ++ el)) (hg2 : (w1.alloc o).grownBy w2 v1.ownBlock) :
    w2.cell? ⟨w.heap.size, k, none⟩ = some u ∧ w2.frozen? ⟨w.heap.size, k, none⟩ = false ∧ But w.heap.size wc (w2.setCell ⟨w.heap.size, k, none⟩ (.slice (some ⟨g, 0, none⟩) (n + 1) cap)) ∧
      (w2.setCell ⟨w.heap.size, k, none⟩ (.slice (some ⟨g, 0, none⟩) (n + 1) cap)).heap[w.heap.size]? = some (.cells ((#[v.n, v.l, v.c, v.d, v.a, v.f] : Array Value).setIfInBounds k (.slice (some ⟨g, 0, none⟩) (n + 1) cap)) 36 (0, 0)) ∧
      (w2.setCell ⟨w.heap.size, k, none⟩ (.slice (some ⟨g, 0, none⟩) (n + 1) cap)).ownsRow 0 T sz (.slice (some ⟨g, 0, none⟩) (n + 1) cap) (n + 1) (xs ++ el) := by
  obtain ⟨r1, r2, r3⟩ := app_two (k := k) (v := .slice (some ⟨g, 0, none⟩) (n + 1) cap) hg1 hg2 (fun j => one_ge (Nat.le_refl _)) (own_ge h1) H.box
  rw [Nat.zero_add, List.nil_append] at h2
  exact ⟨by rw [cell_of_row _ _ _ _ _ _ r1]; exact hu, frozen_of_row _ _ _ _ _ r1, r2, r3, owns_set h2 (heap_lt H.box)⟩
def RN7 (w wr : World) (M : List Nd) (nn : Nd) (v : Rv) (wx : World) : Prop :=
  ∃ g cap, RBox w wx { v with n := .slice (some ⟨g, 0, none⟩) (M.length + 1) cap } nn.bare ∧ wx.ownsRow 0 63 13 (.slice (some ⟨g, 0, none⟩) (M.length + 1) cap) (M.length + 1) (bares M ++ nn.bare) ∧ But w.heap.size wr wx
theorem rn7_a {w wr w1 w2 : World} {M : List Nd} {nn : Nd} {v : Rv} {v1 : Value} {g cap : Nat} {o : Obj} (H : RBox w wr v nn.bare) (hg1 : (wr.alloc (.cells #[] 63)).grownBy w1 (Value.slice (some ⟨wr.heap.size, 0, none⟩) 0 0).ownBlock)
    (h1 : w1.ownsRow wr.heap.size 63 13 v1 (0 + M.length) ([] ++ bares M)) (h2 : w2.ownsRow wr.heap.size 63 13 (.slice (some ⟨g, 0, none⟩) (0 + M.length + 1) cap) (0 + M.length + 1) ([] ++ bares M ++ nn.bare)) (hg2 : (w1.alloc o).grownBy w2 v1.ownBlock) :
    w2.cell? ⟨w.heap.size, 0, none⟩ = some v.n ∧ w2.frozen? ⟨w.heap.size, 0, none⟩ = false ∧ RN7 w wr M nn v (w2.setCell ⟨w.heap.size, 0, none⟩ (.slice (some ⟨g, 0, none⟩) (M.length + 1) cap)) := by
  obtain ⟨r1, r2, r3⟩ := app_two (k := 0) (v := .slice (some ⟨g, 0, none⟩) (M.length + 1) cap) hg1 hg2 (own_ge (owns_made (e := 63) (size := 13) (Nat.le_refl wr.heap.size))) (own_ge h1) H.box
  have hbl := heap_lt H.box
  rw [Nat.zero_add, List.nil_append] at h2
  refine ⟨by rw [cell_of_row _ _ _ _ _ _ r1]; rfl, frozen_of_row _ _ _ _ _ r1, g, cap, H.but r2 r3, owns_set h2 hbl, r2⟩
theorem rn7_b {w wr w1 w2 : World} {M : List Nd} {nn : Nd} {v : Rv} {v1 d1 : Value} {g cap : Nat} {o o' : Obj} (H : RBox w wr v nn.bare) (hg1 : ((wr.alloc o).alloc o').grownBy w1 d1.ownBlock) (hd : ∀ j, d1.ownBlock = some j → wr.heap.size ≤ j)
    (h1 : w1.ownsRow wr.heap.size 63 13 v1 (0 + M.length) ([] ++ bares M)) (h2 : w2.ownsRow wr.heap.size 63 13 (.slice (some ⟨g, 0, none⟩) (0 + M.length + 1) cap) (0 + M.length + 1) ([] ++ bares M ++ nn.bare)) (hg2 : w1.grownBy w2 v1.ownBlock) :
    w2.cell? ⟨w.heap.size, 0, none⟩ = some v.n ∧ w2.frozen? ⟨w.heap.size, 0, none⟩ = false ∧ RN7 w wr M nn v (w2.setCell ⟨w.heap.size, 0, none⟩ (.slice (some ⟨g, 0, none⟩) (M.length + 1) cap)) := by
  obtain ⟨r1, r2, r3⟩ := app_two' (k := 0) (v := .slice (some ⟨g, 0, none⟩) (M.length + 1) cap) hg1 hg2 hd (own_ge h1) H.box
  have hbl := heap_lt H.box
  rw [Nat.zero_add, List.nil_append] at h2
  refine ⟨by rw [cell_of_row _ _ _ _ _ _ r1]; rfl, frozen_of_row _ _ _ _ _ r1, g, cap, H.but r2 r3, owns_set h2 hbl, r2⟩
theorem radd_any (M : List Nd) (L : List It) (v : Rv) (n : Nd) (up : Int) (w : World) (F : List Int) (H : ROwn w v M.length (bares M) L.length (itCells L) M.length (covs M 0) M.length (deads M) M.length (ups M) F.length (ints F)) (hM : M.length ≤ 1000000) :
    Calls Tryz.prog 40 #[rvV v, .agg n.bare.toArray, .int .i64 up] w fun e w' => ∃ v', e = .returned (rvV v') ∧ ROwn w' v' (M.length + 1) (bares M ++ (addedNd n n.dev M).bare) L.length (itCells L) (M.length + 1) (covs M 0 ++ [.int .i64 (-1)]) (M.length + 1) (deads M ++ [.bool false]) (M.length + 1) (ups M ++ [.int .i64 up]) F.length (ints F) ∧ Below w.heap.size w w' := by
  obtain ⟨an, cn, al, cl, ac, cc, ad, cd, aa, ca, af, cf, rfl⟩ := rown_forms H
  have k1 : n.bare[1]? = some (.int .i64 n.ino) := rfl
  unfold rvV
  go_enter Tryz.func40, Tryz.ntmps40
  go_wp2
  clear k1
  have HH := Lib.hid H
  clear H
  go_loopw [7] (RAddRel M ⟨.slice an M.length cn, .slice al L.length cl, .slice ac M.length cc, .slice ad M.length cd, .slice aa M.length ca, .slice af F.length cf⟩ n w) (fun v _ => M.length - (intOf v).toNat)
  case atStart =>
    obtain ⟨q0, q1, q2⟩ := heap3 w (.cells #[.slice an M.length cn, .slice al L.length cl, .slice ac M.length cc, .slice ad M.length cd, .slice aa M.length ca, .slice af F.length cf] 36) (.cells (n.bare.set 1 (.int .i64 1)).toArray 63) (.cells nilsR 36)
    exact ⟨0, Nat.zero_le _, rfl, (((Below.refl _ _).alloc (Nat.le_refl _) _).alloc (by simp) _).alloc (by simp; omega) _, q0, q1, q2⟩
  case round =>
    obtain ⟨k, hk, rfl, hbx⟩ := hrel
    have HB := Lib.hid hbx
    have p0 : wr.cell? ⟨w.heap.size, 0, none⟩ = some (.slice an M.length cn) := by rw [cell_of_row _ _ _ _ _ _ hbx.box]; rfl
    have bd := cntD_bd n.dev (M.take k)
    rw [List.length_take] at bd
    obtain ⟨c, hc⟩ : ∃ c, cntD n.dev (M.take k) = c := ⟨_, rfl⟩
    rw [hc] at bd
    have hc0 : 0 ≤ c := bd.1
    have hc1 : c ≤ 1000000 := by have := bd.2; omega
    have HC := Lib.hid hc
    clear bd hc
    by_cases hlt : k < M.length
    · obtain ⟨x, hx⟩ : ∃ x, M[k]? = some x := ⟨_, List.getElem?_eq_getElem hlt⟩
      have HX := Lib.hid hx
      have own := owns_keep HH.out.1 hbx.below
      obtain ⟨g, cap, hv, _, _⟩ := owns_some own (show 0 < M.length by omega)
      simp only [Value.slice.injEq, true_and] at hv
      obtain ⟨rfl, rfl⟩ := hv
      have n0 : wr.cell? ⟨g, k * 13, none⟩ = some (.int .i64 x.dev) := owns_cell own (j := k * 13) ((bares_get M k 0 x hx (by omega)).trans rfl)
      have b0 : wr.cell? ⟨w.heap.size + 1, 0, none⟩ = some (.int .i64 n.dev) := by rw [cell_of_row _ _ _ _ _ _ hbx.nbox]; rfl
      have b1 : wr.cell? ⟨w.heap.size + 1, 1, none⟩ = some (.int .i64 (1 + c)) := by rw [cell_of_row _ _ _ _ _ _ hbx.nbox, ← HC.out]; rfl
      have f1 : wr.frozen? ⟨w.heap.size + 1, 1, none⟩ = false := frozen_of_row _ _ _ _ _ hbx.nbox
      clear hx own hbx
      by_cases he : x.dev = n.dev
      · have e1 : (x.dev == n.dev) = true := by simp [he]
        have HE := Lib.hid he
        clear he
        go_wp2
        go_quiet (fail)
        go_wp2
        go_roundw
        case rel =>
          refine ⟨k + 1, by omega, by simp, ?_⟩
          have := ((HB.out).setN 1 (.int .i64 (1 + c + 1))).drewN nq
          rw [cntD_next HX.out, if_pos HE.out, HC.out, show 1 + (c + 1) = 1 + c + 1 by omega]
          exact this
        case measure => simp [intOf]; omega
      · have e1 : (x.dev == n.dev) = false := by simp [he]
        have HE := Lib.hid he
        clear he
        go_wp2
        go_quiet (fail)
        go_wp2
        go_roundw
        case rel =>
          refine ⟨k + 1, by omega, by simp, ?_⟩
          rw [cntD_next HX.out, if_neg HE.out, HC.out, Int.add_zero, ← HC.out]
          exact HB.out.drewN nq
        case measure => simp [intOf]; omega
    · have hke : k = M.length := by omega
      have hbx2 : RBox w wr ⟨.slice an M.length cn, .slice al L.length cl, .slice ac M.length cc, .slice ad M.length cd, .slice aa M.length ca, .slice af F.length cf⟩ (Nd.bare (addedNd n n.dev M)) := by
        have := HB.out
        rw [hke, List.take_length] at this
        exact this
      subst hke
      go_wp2
      have HB2 := Lib.hid hbx2
      have HNb := Lib.hid (owns_keep HH.out.1 hbx2.below)
      clear hbx2 HB HC
      obtain ⟨i0, hi, hz0, hz1, hz2⟩ := info_parts infoKnown
      have HMX := Lib.hid (show 0 + M.length ≤ maxLen from by unfold maxLen; omega)
      have HMY := Lib.hid (show 0 + M.length + 1 ≤ maxLen from by unfold maxLen; omega)
      obtain ⟨nn, hnn⟩ : ∃ nn, addedNd n n.dev M = nn := ⟨_, rfl⟩
      rw [hnn] at HB2
      have HNN := Lib.hid hnn
      clear hnn
      go_cut [] from 29 to 36 (fun wx => RN7 w wr M nn ⟨.slice an M.length cn, .slice al L.length cl, .slice ac M.length cc, .slice ad M.length cd, .slice aa M.length ca, .slice af F.length cf⟩ wx)
      case first =>
        have hq0 : w.heap.size < wr.heap.size := heap_lt HB2.out.box
        have hq1 : w.heap.size + 1 < wr.heap.size := heap_lt HB2.out.nbox
        have p0 : wr.cell? ⟨w.heap.size, 0, none⟩ = some (.slice an M.length cn) := by rw [cell_of_row _ _ _ _ _ _ HB2.out.box]; rfl
        have p0a : ∀ o, (wr.alloc o).cell? ⟨w.heap.size, 0, none⟩ = some (.slice an M.length cn) := fun o => (World.cell?_alloc_past _ _ _ hq0).trans p0
        have p0b : ∀ o o', ((wr.alloc o).alloc o').cell? ⟨w.heap.size, 0, none⟩ = some (.slice an M.length cn) := fun o o' => (World.cell?_alloc_past _ _ _ (by simp; omega)).trans (p0a o)
        have bx : ∀ j u, (Nd.bare nn)[j]? = some u → wr.cell? ⟨w.heap.size + 1, j, none⟩ = some u := fun j u hu => by rw [cell_of_row _ _ _ _ _ _ HB2.out.nbox]; simpa using hu
        have b0 := bx 0 _ rfl
        have a0 : ∀ o, (wr.alloc o).cell? ⟨w.heap.size + 1, 0, none⟩ = some _ := fun o => (World.cell?_alloc_past _ _ _ hq1).trans b0
        have b1 := bx 1 _ rfl
        have a1 : ∀ o, (wr.alloc o).cell? ⟨w.heap.size + 1, 1, none⟩ = some _ := fun o => (World.cell?_alloc_past _ _ _ hq1).trans b1
        have b2 := bx 2 _ rfl
        have a2 : ∀ o, (wr.alloc o).cell? ⟨w.heap.size + 1, 2, none⟩ = some _ := fun o => (World.cell?_alloc_past _ _ _ hq1).trans b2
        have b3 := bx 3 _ rfl
        have a3 : ∀ o, (wr.alloc o).cell? ⟨w.heap.size + 1, 3, none⟩ = some _ := fun o => (World.cell?_alloc_past _ _ _ hq1).trans b3
        have b4 := bx 4 _ rfl
        have a4 : ∀ o, (wr.alloc o).cell? ⟨w.heap.size + 1, 4, none⟩ = some _ := fun o => (World.cell?_alloc_past _ _ _ hq1).trans b4
        have b5 := bx 5 _ rfl
        have a5 : ∀ o, (wr.alloc o).cell? ⟨w.heap.size + 1, 5, none⟩ = some _ := fun o => (World.cell?_alloc_past _ _ _ hq1).trans b5
        have b6 := bx 6 _ rfl
        have a6 : ∀ o, (wr.alloc o).cell? ⟨w.heap.size + 1, 6, none⟩ = some _ := fun o => (World.cell?_alloc_past _ _ _ hq1).trans b6
        have b7 := bx 7 _ rfl
        have a7 : ∀ o, (wr.alloc o).cell? ⟨w.heap.size + 1, 7, none⟩ = some _ := fun o => (World.cell?_alloc_past _ _ _ hq1).trans b7
        have b8 := bx 8 _ rfl
        have a8 : ∀ o, (wr.alloc o).cell? ⟨w.heap.size + 1, 8, none⟩ = some _ := fun o => (World.cell?_alloc_past _ _ _ hq1).trans b8
        have b9 := bx 9 _ rfl
        have a9 : ∀ o, (wr.alloc o).cell? ⟨w.heap.size + 1, 9, none⟩ = some _ := fun o => (World.cell?_alloc_past _ _ _ hq1).trans b9
        have b10 := bx 10 _ rfl
        have a10 : ∀ o, (wr.alloc o).cell? ⟨w.heap.size + 1, 10, none⟩ = some _ := fun o => (World.cell?_alloc_past _ _ _ hq1).trans b10
        have b11 := bx 11 _ rfl
        have a11 : ∀ o, (wr.alloc o).cell? ⟨w.heap.size + 1, 11, none⟩ = some _ := fun o => (World.cell?_alloc_past _ _ _ hq1).trans b11
        have b12 := bx 12 _ rfl
        have a12 : ∀ o, (wr.alloc o).cell? ⟨w.heap.size + 1, 12, none⟩ = some _ := fun o => (World.cell?_alloc_past _ _ _ hq1).trans b12
        have HS1 := Lib.hid (show ∀ o, (wr.alloc o).ownsRow 0 63 13 (.slice an M.length cn) M.length (bares M) from fun o => HNb.out.alloc o)
        have HS2 := Lib.hid (show ∀ o o', ((wr.alloc o).alloc o').ownsRow 0 63 13 (.slice an M.length cn) M.length (bares M) from fun o o' => (HNb.out.alloc o).alloc o')
        have HNX := Lib.hid (show ∀ W : World, W.heap[w.heap.size + 1]? = some (.cells nn.bare.toArray 63 (0, 0)) → ∀ j u, (Nd.bare nn)[j]? = some u → W.cell? ⟨w.heap.size + 1, j, none⟩ = some u from fun W hW j u hu => by rw [cell_of_row _ _ _ _ _ _ hW]; simpa using hu)
        clear bx
        go_region_law (first
          | (refine step_append_row rfl (.tmp 29) (.tmp 31) 31 rfl wr.heap.size 63 i0 _ 13 112 Tryz.underlying31 hi hz0 hz1 hz2 rfl (by decide) (.slice (some ⟨wr.heap.size, 0, none⟩) 0 0) 0 [] (by simp [Act.eval]) (owns_made (Nat.le_refl _)) (.slice an M.length cn) M.length (bares M) (by simp [Act.eval]) (HS1.out _) (bares_one' M) HMX.out (by omega) (by simp) ?_; intro v1 w1 hown1 hg1; have HGA := Lib.hid (undrew hg1); have HOA := Lib.hid hown1; have hnb1 := (grown_old hg1 (own_ge (owns_made (e := 63) (size := 13) (Nat.le_refl wr.heap.size))) (by simp; omega) hq1).trans ((heap_alloc_old _ _ hq1).trans HB2.out.nbox); have c0 := HNX.out _ hnb1 0 _ rfl; have c1 := HNX.out _ hnb1 1 _ rfl; have c2 := HNX.out _ hnb1 2 _ rfl; have c3 := HNX.out _ hnb1 3 _ rfl; have c4 := HNX.out _ hnb1 4 _ rfl; have c5 := HNX.out _ hnb1 5 _ rfl; have c6 := HNX.out _ hnb1 6 _ rfl; have c7 := HNX.out _ hnb1 7 _ rfl; have c8 := HNX.out _ hnb1 8 _ rfl; have c9 := HNX.out _ hnb1 9 _ rfl; have c10 := HNX.out _ hnb1 10 _ rfl; have c11 := HNX.out _ hnb1 11 _ rfl; have c12 := HNX.out _ hnb1 12 _ rfl; clear hown1 hg1 hnb1)
          | (refine step_append_row rfl (.tmp 29) (.tmp 31) 31 rfl wr.heap.size 63 i0 _ 13 112 Tryz.underlying31 hi hz0 hz1 hz2 rfl (by decide) (.slice (some ⟨wr.heap.size, 0, none⟩) 0 0) 0 [] (by simp [Act.eval]) ((owns_made (Nat.le_refl _)).alloc (.cells nn.bare.toArray 63)) (.slice an M.length cn) M.length (bares M) (by simp [Act.eval]) (HS2.out (.cells #[] 63) (.cells nn.bare.toArray 63)) (bares_one' M) HMX.out (by omega) (by simp <;> omega) ?_; intro v1 w1 hown1 hg1; have HGB := Lib.hid (undrew hg1); have HGD := Lib.hid (show ∀ j, (Value.slice (some ⟨wr.heap.size, 0, none⟩) 0 0).ownBlock = some j → wr.heap.size ≤ j from fun j => one_ge (Nat.le_refl _)); have HOB := Lib.hid hown1; have HEL := Lib.hid (hel_b (nn := nn) (undrew hg1) (by rw [own_some]; simp)); clear hown1 hg1)
          | (refine step_append_row rfl (.tmp 29) (.tmp 31) 31 rfl wr.heap.size 63 i0 _ 13 112 Tryz.underlying31 hi hz0 hz1 hz2 rfl (by decide) (.slice (some ⟨wr.heap.size + 1, 0, none⟩) 0 0) 0 [] (by simp [Act.eval]) (own_c wr _) (.slice an M.length cn) M.length (bares M) (by simp [Act.eval]) (HS2.out (.cells nn.bare.toArray 63) (.cells #[] 63)) (bares_one' M) HMX.out (by omega) (by simp <;> omega) ?_; intro v1 w1 hown1 hg1; have HGB := Lib.hid (undrew hg1); have HGD := Lib.hid (show ∀ j, (Value.slice (some ⟨wr.heap.size + 1, 0, none⟩) 0 0).ownBlock = some j → wr.heap.size ≤ j from fun j => one_ge (by omega)); have HOB := Lib.hid hown1; have HEL := Lib.hid (hel_c (nn := nn) (undrew hg1) (by rw [own_some]; simp)); clear hown1 hg1)
          | (refine step_append_row rfl (.tmp 32) (.tmp 34) 31 rfl wr.heap.size 63 i0 _ 13 112 Tryz.underlying31 hi hz0 hz1 hz2 rfl (by decide) v1 (0 + M.length) ([] ++ bares M) (by simp [Act.eval]) (HOA.out.alloc _) (.slice (some ⟨w1.heap.size, 0, none⟩) 1 1) 1 nn.bare (by simp [Act.eval]) (owns_single 13 rfl) (bare_one nn) HMY.out (by omega) (by have := HGA.out.size; simp at this ⊢; omega) ?_; intro v2 w2 hown2 hg2; obtain ⟨g2, cap2, rfl, _, _⟩ := owns_some hown2 (by omega); have R := Lib.hid (rn7_a HB2.out HGA.out HOA.out hown2 hg2); have q2 := R.out.1; have q3 := R.out.2.1; clear hown2 hg2)
          | (refine step_append_row rfl (.tmp 32) (.tmp 34) 31 rfl wr.heap.size 63 i0 _ 13 112 Tryz.underlying31 hi hz0 hz1 hz2 rfl (by decide) v1 (0 + M.length) ([] ++ bares M) (by simp [Act.eval]) HOB.out (.slice (some ⟨wr.heap.size + 1, 0, none⟩) 1 1) 1 nn.bare (by simp [Act.eval]) HEL.out (bare_one nn) HMY.out (by omega) (by have := HGB.out.size; simp at this ⊢; omega) ?_; intro v2 w2 hown2 hg2; obtain ⟨g2, cap2, rfl, _, _⟩ := owns_some hown2 (by omega); have R := Lib.hid (rn7_b HB2.out HGB.out HGD.out HOB.out hown2 hg2); have q2 := R.out.1; have q3 := R.out.2.1; clear hown2 hg2)
          | (refine step_append_row rfl (.tmp 32) (.tmp 34) 31 rfl wr.heap.size 63 i0 _ 13 112 Tryz.underlying31 hi hz0 hz1 hz2 rfl (by decide) v1 (0 + M.length) ([] ++ bares M) (by simp [Act.eval]) HOB.out (.slice (some ⟨wr.heap.size, 0, none⟩) 1 1) 1 nn.bare (by simp [Act.eval]) HEL.out (bare_one nn) HMY.out (by omega) (by have := HGB.out.size; simp at this ⊢; omega) ?_; intro v2 w2 hown2 hg2; obtain ⟨g2, cap2, rfl, _, _⟩ := owns_some hown2 (by omega); have R := Lib.hid (rn7_b HB2.out HGB.out HGD.out HOB.out hown2 hg2); have q2 := R.out.1; have q3 := R.out.2.1; clear hown2 hg2))
        all_goals go_wp2
        all_goals go_meet
        all_goals exact R.out.2.2
      case rest =>
        obtain ⟨gn, kn, hbx, hon, hbut⟩ := hcut
        have hbox := HB2.out.box
        have HO := Lib.hid (show ROwn wc ⟨.slice (some ⟨gn, 0, none⟩) (M.length + 1) kn, .slice al L.length cl, .slice ac M.length cc, .slice ad M.length cd, .slice aa M.length ca, .slice af F.length cf⟩ (M.length + 1) (bares M ++ nn.bare) L.length (itCells L) M.length (covs M 0) M.length (deads M) M.length (ups M) F.length (ints F) from
          ⟨hon, hbut.owns (owns_keep HH.out.2.1 HB2.out.below) hbox (by decide), hbut.owns (owns_keep HH.out.2.2.1 HB2.out.below) hbox (by decide), hbut.owns (owns_keep HH.out.2.2.2.1 HB2.out.below) hbox (by decide), hbut.owns (owns_keep HH.out.2.2.2.2.1 HB2.out.below) hbox (by decide), hbut.owns (owns_keep HH.out.2.2.2.2.2 HB2.out.below) hbox (by decide)⟩)
        have HR := Lib.hid hbx
        have HFin := Lib.hid (show True from trivial)
        clear hbx hon hbut hbox p0 HB2 HNb
        obtain ⟨j0, ji, jz0, jz1, jz2⟩ := info_parts infoInt
        obtain ⟨l0, li, lz0, lz1, lz2⟩ := info_parts infoBool
        have hq := heap_lt HR.out.box
        have p2 : wc.cell? ⟨w.heap.size, 2, none⟩ = some (.slice ac M.length cc) := by rw [cell_of_row _ _ _ _ _ _ HR.out.box]; rfl
        have p2a : ∀ o, (wc.alloc o).cell? ⟨w.heap.size, 2, none⟩ = some (.slice ac M.length cc) := fun o => (World.cell?_alloc_past _ _ _ hq).trans p2
        go_upto_region 9 with (first
          | (at_builtin; refine wpList_append_row rfl (.tmp 37) (.tmp 39) 33 rfl wc.heap.size 3 j0 _ 1 8 Tryz.underlying33 ji jz0 jz1 jz2 rfl (by decide) (.slice (some ⟨wc.heap.size, 0, none⟩) 0 0) 0 [] rfl (owns_made (Nat.le_refl _)) (.slice ac M.length cc) M.length (covs M 0) rfl (HO.out.2.2.1.alloc _) (covs_one M 0) HMX.out (by omega) (by simp) ?_; intro v1 w1 hown1 hg1; have HGA := Lib.hid hg1; have HOA := Lib.hid hown1; clear hown1 hg1)
          | (at_builtin; refine wpList_append_row rfl (.tmp 40) (.tmp 41) 33 rfl wc.heap.size 3 j0 _ 1 8 Tryz.underlying33 ji jz0 jz1 jz2 rfl (by decide) v1 (0 + M.length) ([] ++ covs M 0) rfl (HOA.out.alloc _) (.slice (some ⟨w1.heap.size, 0, none⟩) 1 1) 1 [.int .i64 (-1)] rfl (owns_single 1 rfl) (by intro u hu; simp at hu; subst hu; rfl) HMY.out (by omega) (by have := HGA.out.size; simp at this ⊢; omega) ?_; intro v2 w2 hown2 hg2; obtain ⟨gc, kc, rfl, _, _⟩ := owns_some hown2 (by omega); have R := Lib.hid (rfld HR.out 2 rfl HGA.out HOA.out hown2 hg2); have q2 := R.out.1; have q3 := R.out.2.1; clear hown2 hg2))
        obtain ⟨_, _, s1, s2, s3⟩ := R.out
        have HR2 := Lib.hid (HR.out.but (v' := ⟨.slice (some ⟨gn, 0, none⟩) (M.length + 1) kn, .slice al L.length cl, .slice (some ⟨gc, 0, none⟩) (M.length + 1) kc, .slice ad M.length cd, .slice aa M.length ca, .slice af F.length cf⟩) s1 s2)
        have HO2 := Lib.hid (show ROwn _ ⟨.slice (some ⟨gn, 0, none⟩) (M.length + 1) kn, .slice al L.length cl, .slice (some ⟨gc, 0, none⟩) (M.length + 1) kc, .slice ad M.length cd, .slice aa M.length ca, .slice af F.length cf⟩ (M.length + 1) (bares M ++ nn.bare) (L.length) (itCells L) (M.length + 1) (covs M 0 ++ [.int .i64 (-1)]) (M.length) (deads M) (M.length) (ups M) F.length (ints F) from ⟨s1.owns HO.out.1 HR.out.box (by decide), s1.owns HO.out.2.1 HR.out.box (by decide), s3, s1.owns HO.out.2.2.2.1 HR.out.box (by decide), s1.owns HO.out.2.2.2.2.1 HR.out.box (by decide), s1.owns HO.out.2.2.2.2.2 HR.out.box (by decide)⟩)
        clear HR HO R s1 s2 s3 q2 q3 HGA HOA p2 p2a hq
        generalize w2.setCell ⟨w.heap.size, 2, none⟩ (.slice (some ⟨gc, 0, none⟩) (M.length + 1) kc) = wc8 at *
        have HR := Lib.hid HR2.out
        have HO := Lib.hid HO2.out
        clear HR2 HO2
        have hq := heap_lt HR.out.box
        have p3 : wc8.cell? ⟨w.heap.size, 3, none⟩ = some (.slice ad M.length cd) := by rw [cell_of_row _ _ _ _ _ _ HR.out.box]; rfl
        have p3a : ∀ o, (wc8.alloc o).cell? ⟨w.heap.size, 3, none⟩ = some (.slice ad M.length cd) := fun o => (World.cell?_alloc_past _ _ _ hq).trans p3
        go_upto_region 10 with (first
          | (at_builtin; refine wpList_append_row rfl (.tmp 44) (.tmp 46) 34 rfl wc8.heap.size 4 l0 _ 1 1 Tryz.underlying34 li lz0 lz1 lz2 rfl (by decide) (.slice (some ⟨wc8.heap.size, 0, none⟩) 0 0) 0 [] rfl (owns_made (Nat.le_refl _)) (.slice ad M.length cd) M.length (deads M) rfl (HO.out.2.2.2.1.alloc _) (deads_one M) HMX.out (by omega) (by simp) ?_; intro v1 w1 hown1 hg1; have HGA := Lib.hid hg1; have HOA := Lib.hid hown1; clear hown1 hg1)
          | (at_builtin; refine wpList_append_row rfl (.tmp 47) (.tmp 48) 34 rfl wc8.heap.size 4 l0 _ 1 1 Tryz.underlying34 li lz0 lz1 lz2 rfl (by decide) v1 (0 + M.length) ([] ++ deads M) rfl (HOA.out.alloc _) (.slice (some ⟨w1.heap.size, 0, none⟩) 1 1) 1 [.bool false] rfl (owns_single 1 rfl) (by intro u hu; simp at hu; subst hu; rfl) HMY.out (by omega) (by have := HGA.out.size; simp at this ⊢; omega) ?_; intro v2 w2 hown2 hg2; obtain ⟨gd, kd, rfl, _, _⟩ := owns_some hown2 (by omega); have R := Lib.hid (rfld HR.out 3 rfl HGA.out HOA.out hown2 hg2); have q2 := R.out.1; have q3 := R.out.2.1; clear hown2 hg2))
        obtain ⟨_, _, s1, s2, s3⟩ := R.out
        have HR2 := Lib.hid (HR.out.but (v' := ⟨.slice (some ⟨gn, 0, none⟩) (M.length + 1) kn, .slice al L.length cl, .slice (some ⟨gc, 0, none⟩) (M.length + 1) kc, .slice (some ⟨gd, 0, none⟩) (M.length + 1) kd, .slice aa M.length ca, .slice af F.length cf⟩) s1 s2)
        have HO2 := Lib.hid (show ROwn _ ⟨.slice (some ⟨gn, 0, none⟩) (M.length + 1) kn, .slice al L.length cl, .slice (some ⟨gc, 0, none⟩) (M.length + 1) kc, .slice (some ⟨gd, 0, none⟩) (M.length + 1) kd, .slice aa M.length ca, .slice af F.length cf⟩ (M.length + 1) (bares M ++ nn.bare) (L.length) (itCells L) (M.length + 1) (covs M 0 ++ [.int .i64 (-1)]) (M.length + 1) (deads M ++ [.bool false]) (M.length) (ups M) F.length (ints F) from ⟨s1.owns HO.out.1 HR.out.box (by decide), s1.owns HO.out.2.1 HR.out.box (by decide), s1.owns HO.out.2.2.1 HR.out.box (by decide), s3, s1.owns HO.out.2.2.2.2.1 HR.out.box (by decide), s1.owns HO.out.2.2.2.2.2 HR.out.box (by decide)⟩)
        clear HR HO R s1 s2 s3 q2 q3 HGA HOA p3 p3a hq
        generalize w2.setCell ⟨w.heap.size, 3, none⟩ (.slice (some ⟨gd, 0, none⟩) (M.length + 1) kd) = wc9 at *
        have HR := Lib.hid HR2.out
        have HO := Lib.hid HO2.out
        clear HR2 HO2
        have hq := heap_lt HR.out.box
        have p4 : wc9.cell? ⟨w.heap.size, 4, none⟩ = some (.slice aa M.length ca) := by rw [cell_of_row _ _ _ _ _ _ HR.out.box]; rfl
        have p4a : ∀ o, (wc9.alloc o).cell? ⟨w.heap.size, 4, none⟩ = some (.slice aa M.length ca) := fun o => (World.cell?_alloc_past _ _ _ hq).trans p4
        go_upto_region 11 with (first
          | (at_builtin; refine wpList_append_row rfl (.tmp 51) (.tmp 53) 33 rfl wc9.heap.size 3 j0 _ 1 8 Tryz.underlying33 ji jz0 jz1 jz2 rfl (by decide) (.slice (some ⟨wc9.heap.size, 0, none⟩) 0 0) 0 [] rfl (owns_made (Nat.le_refl _)) (.slice aa M.length ca) M.length (ups M) rfl (HO.out.2.2.2.2.1.alloc _) (ups_one M) HMX.out (by omega) (by simp) ?_; intro v1 w1 hown1 hg1; have HGA := Lib.hid hg1; have HOA := Lib.hid hown1; clear hown1 hg1)
          | (at_builtin; refine wpList_append_row rfl (.tmp 54) (.tmp 56) 33 rfl wc9.heap.size 3 j0 _ 1 8 Tryz.underlying33 ji jz0 jz1 jz2 rfl (by decide) v1 (0 + M.length) ([] ++ ups M) rfl (HOA.out.alloc _) (.slice (some ⟨w1.heap.size, 0, none⟩) 1 1) 1 [.int .i64 up] rfl (owns_single 1 rfl) (by intro u hu; simp at hu; subst hu; rfl) HMY.out (by omega) (by have := HGA.out.size; simp at this ⊢; omega) ?_; intro v2 w2 hown2 hg2; obtain ⟨ga, ka, rfl, _, _⟩ := owns_some hown2 (by omega); have R := Lib.hid (rfld HR.out 4 rfl HGA.out HOA.out hown2 hg2); have q2 := R.out.1; have q3 := R.out.2.1; clear hown2 hg2))
        obtain ⟨_, _, s1, s2, s3⟩ := R.out
        have HR2 := Lib.hid (HR.out.but (v' := ⟨.slice (some ⟨gn, 0, none⟩) (M.length + 1) kn, .slice al L.length cl, .slice (some ⟨gc, 0, none⟩) (M.length + 1) kc, .slice (some ⟨gd, 0, none⟩) (M.length + 1) kd, .slice (some ⟨ga, 0, none⟩) (M.length + 1) ka, .slice af F.length cf⟩) s1 s2)
        have HO2 := Lib.hid (show ROwn _ ⟨.slice (some ⟨gn, 0, none⟩) (M.length + 1) kn, .slice al L.length cl, .slice (some ⟨gc, 0, none⟩) (M.length + 1) kc, .slice (some ⟨gd, 0, none⟩) (M.length + 1) kd, .slice (some ⟨ga, 0, none⟩) (M.length + 1) ka, .slice af F.length cf⟩ (M.length + 1) (bares M ++ nn.bare) (L.length) (itCells L) (M.length + 1) (covs M 0 ++ [.int .i64 (-1)]) (M.length + 1) (deads M ++ [.bool false]) (M.length + 1) (ups M ++ [.int .i64 up]) F.length (ints F) from ⟨s1.owns HO.out.1 HR.out.box (by decide), s1.owns HO.out.2.1 HR.out.box (by decide), s1.owns HO.out.2.2.1 HR.out.box (by decide), s1.owns HO.out.2.2.2.1 HR.out.box (by decide), s3, s1.owns HO.out.2.2.2.2.2 HR.out.box (by decide)⟩)
        clear HR HO R s1 s2 s3 q2 q3 HGA HOA p4 p4a hq
        generalize w2.setCell ⟨w.heap.size, 4, none⟩ (.slice (some ⟨ga, 0, none⟩) (M.length + 1) ka) = wc10 at *
        have HR := Lib.hid HR2.out
        have HO := Lib.hid HO2.out
        clear HR2 HO2
        have hres := HR.out.res
        have hbx := HR.out.box
        have HRE := Lib.hid (show wc10.heap[w.heap.size + 1 + 1]? = some (.cells nilsR 36 (0, 0)) from hres)
        have HBX := Lib.hid hbx
        clear hres hbx
        go_wp2_with (first
          | (refine wpList_load_row rfl 36 (.tmp 3) rfl w.heap.size rfl _ _ _ _ HBX.out Tryz.underlying36 rfl (by rw [sizeRef]; rfl) ?_)
          | (refine wpList_store_row rfl 36 (.tmp 6) (.tmp 59) rfl (w.heap.size + 1 + 1) #[.slice (some ⟨gn, 0, none⟩) (M.length + 1) kn, .slice al L.length cl, .slice (some ⟨gc, 0, none⟩) (M.length + 1) kc, .slice (some ⟨gd, 0, none⟩) (M.length + 1) kd, .slice (some ⟨ga, 0, none⟩) (M.length + 1) ka, .slice af F.length cf] rfl rfl 36 nilsR HRE.out sizeRef rfl (one6 _ _ _ _ _ _ _ _ _ _ _ _ _ _ _ _ _ _) ?_))
        refine bodyPost_ret (v := rvV ⟨.slice (some ⟨gn, 0, none⟩) (M.length + 1) kn, .slice al L.length cl, .slice (some ⟨gc, 0, none⟩) (M.length + 1) kc, .slice (some ⟨gd, 0, none⟩) (M.length + 1) kd, .slice (some ⟨ga, 0, none⟩) (M.length + 1) ka, .slice af F.length cf⟩) ?_ rfl ⟨⟨.slice (some ⟨gn, 0, none⟩) (M.length + 1) kn, .slice al L.length cl, .slice (some ⟨gc, 0, none⟩) (M.length + 1) kc, .slice (some ⟨gd, 0, none⟩) (M.length + 1) kd, .slice (some ⟨ga, 0, none⟩) (M.length + 1) ka, .slice af F.length cf⟩, rfl, ?_, ?_⟩
        · exact results_cell_row Tryz.results40 _ _ (w.heap.size + 1 + 1) _ _ _ _ rfl (setRow_heap _ _ _ _ _ _ HRE.out) Tryz.underlying36 rfl (by rw [sizeRef]; rfl)
        · have hb := but_setRow HRE.out #[.slice (some ⟨gn, 0, none⟩) (M.length + 1) kn, .slice al L.length cl, .slice (some ⟨gc, 0, none⟩) (M.length + 1) kc, .slice (some ⟨gd, 0, none⟩) (M.length + 1) kd, .slice (some ⟨ga, 0, none⟩) (M.length + 1) ka, .slice af F.length cf]
          have e := HNN.out
          rw [e]
          exact ⟨hb.owns HO.out.1 HRE.out (by decide), hb.owns HO.out.2.1 HRE.out (by decide), hb.owns HO.out.2.2.1 HRE.out (by decide), hb.owns HO.out.2.2.2.1 HRE.out (by decide), hb.owns HO.out.2.2.2.2.1 HRE.out (by decide), hb.owns HO.out.2.2.2.2.2 HRE.out (by decide)⟩
        · exact (but_setRow HRE.out #[.slice (some ⟨gn, 0, none⟩) (M.length + 1) kn, .slice al L.length cl, .slice (some ⟨gc, 0, none⟩) (M.length + 1) kc, .slice (some ⟨gd, 0, none⟩) (M.length + 1) kd, .slice (some ⟨ga, 0, none⟩) (M.length + 1) ka, .slice af F.length cf]).below HR.out.below (by omega) HR.out.below.size
end Go.Proofs.YtfhagjnlliafiaaGreatDoor.V
namespace Go.Proofs.YtfhagjnlliafiaaGreatDoor.V
open Go.RowKit
structure DBox (w wr : World) (v : Rv) : Prop where
  below : Below w.heap.size w wr
  box : wr.heap[w.heap.size]? = some (.cells #[v.n, v.l, v.c, v.d, v.a, v.f] 36 (0, 0))
  res : wr.heap[w.heap.size + 1]? = some (.cells nilsR 36 (0, 0))
theorem DBox.but {w wr w' : World} {v v' : Rv} (h : DBox w wr v) (hb : But w.heap.size wr w') (hx : w'.heap[w.heap.size]? = some (.cells #[v'.n, v'.l, v'.c, v'.d, v'.a, v'.f] 36 (0, 0))) : DBox w w' v' :=
  ⟨hb.below h.below (Nat.le_refl _) h.below.size, hx, (hb.block _ (heap_lt h.res) (by omega)).trans h.res⟩
theorem DBox.begin (w : World) (v : Rv) : DBox w ((w.alloc (.cells #[v.n, v.l, v.c, v.d, v.a, v.f] 36)).alloc (.cells nilsR 36)) v :=
  ⟨((Below.refl _ _).alloc (Nat.le_refl _) _).alloc (by simp) _, heap_alloc2_old _ _ _, heap_alloc2_new _ _ _⟩
theorem one_b {wr w1 : World} {x : Value} {e : TypeId} {row : Option Nat} {o : Obj} (hg : ((wr.alloc o).alloc (.cells #[x] e)).grownBy w1 row) (hne : row ≠ some (wr.heap.size + 1)) : w1.ownsRow 0 e 1 (.slice (some ⟨wr.heap.size + 1, 0, none⟩) 1 1) 1 [x] := by
  have h := owns_single (W := wr.alloc o) (e := e) (xs := [x]) 1 rfl
  have q : (wr.alloc o).heap.size = wr.heap.size + 1 := by simp
  rw [q] at h
  exact grown_owns h hg hne
theorem one_c {wr w1 : World} {x : Value} {e : TypeId} {row : Option Nat} {o : Obj} (hg : ((wr.alloc (.cells #[x] e)).alloc o).grownBy w1 row) (hne : row ≠ some wr.heap.size) : w1.ownsRow 0 e 1 (.slice (some ⟨wr.heap.size, 0, none⟩) 1 1) 1 [x] :=
  grown_owns ((owns_single (W := wr) (e := e) (xs := [x]) 1 rfl).alloc o) hg hne
def RD1 (w wr : World) (F : List Int) (m : Int) (v : Rv) (wx : World) : Prop :=
  ∃ g cap, DBox w wx { v with f := .slice (some ⟨g, 0, none⟩) (F.length + 1) cap } ∧ wx.ownsRow 0 3 1 (.slice (some ⟨g, 0, none⟩) (F.length + 1) cap) (F.length + 1) (ints F ++ [.int .i64 m]) ∧ But w.heap.size wr wx
theorem rd1_a {w wr w1 w2 : World} {F : List Int} {m : Int} {v : Rv} {v1 : Value} {g cap : Nat} {o : Obj} (H : DBox w wr v) (hg1 : (wr.alloc (.cells #[] 3)).grownBy w1 (Value.slice (some ⟨wr.heap.size, 0, none⟩) 0 0).ownBlock)
    (h1 : w1.ownsRow wr.heap.size 3 1 v1 (0 + F.length) ([] ++ ints F)) (h2 : w2.ownsRow wr.heap.size 3 1 (.slice (some ⟨g, 0, none⟩) (0 + F.length + 1) cap) (0 + F.length + 1) ([] ++ ints F ++ [.int .i64 m])) (hg2 : (w1.alloc o).grownBy w2 v1.ownBlock) :
    w2.cell? ⟨w.heap.size, 5, none⟩ = some v.f ∧ w2.frozen? ⟨w.heap.size, 5, none⟩ = false ∧ RD1 w wr F m v (w2.setCell ⟨w.heap.size, 5, none⟩ (.slice (some ⟨g, 0, none⟩) (F.length + 1) cap)) := by
  obtain ⟨r1, r2, r3⟩ := app_two (k := 5) (v := .slice (some ⟨g, 0, none⟩) (F.length + 1) cap) hg1 hg2 (own_ge (owns_made (e := 3) (size := 1) (Nat.le_refl wr.heap.size))) (own_ge h1) H.box
  have hbl := heap_lt H.box
  rw [Nat.zero_add, List.nil_append] at h2
  refine ⟨by rw [cell_of_row _ _ _ _ _ _ r1]; rfl, frozen_of_row _ _ _ _ _ r1, g, cap, H.but r2 r3, owns_set h2 hbl, r2⟩
theorem rd1_b {w wr w1 w2 : World} {F : List Int} {m : Int} {v : Rv} {v1 d1 : Value} {g cap : Nat} {o o' : Obj} (H : DBox w wr v) (hg1 : ((wr.alloc o).alloc o').grownBy w1 d1.ownBlock) (hd : ∀ j, d1.ownBlock = some j → wr.heap.size ≤ j)
    (h1 : w1.ownsRow wr.heap.size 3 1 v1 (0 + F.length) ([] ++ ints F)) (h2 : w2.ownsRow wr.heap.size 3 1 (.slice (some ⟨g, 0, none⟩) (0 + F.length + 1) cap) (0 + F.length + 1) ([] ++ ints F ++ [.int .i64 m])) (hg2 : w1.grownBy w2 v1.ownBlock) :
    w2.cell? ⟨w.heap.size, 5, none⟩ = some v.f ∧ w2.frozen? ⟨w.heap.size, 5, none⟩ = false ∧ RD1 w wr F m v (w2.setCell ⟨w.heap.size, 5, none⟩ (.slice (some ⟨g, 0, none⟩) (F.length + 1) cap)) := by
  obtain ⟨r1, r2, r3⟩ := app_two' (k := 5) (v := .slice (some ⟨g, 0, none⟩) (F.length + 1) cap) hg1 hg2 hd (own_ge h1) H.box
  have hbl := heap_lt H.box
  rw [Nat.zero_add, List.nil_append] at h2
  refine ⟨by rw [cell_of_row _ _ _ _ _ _ r1]; rfl, frozen_of_row _ _ _ _ _ r1, g, cap, H.but r2 r3, owns_set h2 hbl, r2⟩
theorem step_store_row {ops : Array Oper} {o : Oper} {a : Act} {w : World} {K : Act → World → Prop} {Q : Exit → Act → World → Prop} {E : Prop} (hgd : o.guard = none) (ty : TypeId) (x y : Operand) (ho : o.op = .store ty x y)
    (g : Nat) (cells : Array Value) (hx : a.eval x = .pointer (some ⟨g, 0, none⟩)) (hy : a.eval y = .agg cells)
    (t : TypeId) (old : Array Value) (hg : w.heap[g]? = some (.cells old t (0, 0))) (hi : (Tryz.prog.info? ty).map (·.size) = some cells.size)
    (hold : old.size = cells.size) (h1 : cells.all (·.oneCell') = true) (h : K (a.put o.dst undef) (w.setRow g cells)) :
    if Region.wanted o (yielded ops a.tmps) = true then Oper.wp Tryz.prog o a w K Q else E := by
  have hw : Region.wanted o (yielded ops a.tmps) = true := by simp [Region.wanted, hgd]
  rw [if_pos hw]
  exact wp_store_row ty x y ho g cells hx hy t old hg hi hold h1 h
theorem but_setCell (W : World) (b k : Nat) (v : Value) : But b W (W.setCell ⟨b, k, none⟩ v) := ⟨rfl, rfl, rfl, by rw [size_setCell]; exact Nat.le_refl _, fun j hj hn => heap_setCell_other _ _ _ _ hn⟩
theorem But.trans {b : Nat} {w w' w'' : World} (h : But b w w') (g : But b w' w'') : But b w w'' := ⟨g.os.trans h.os, g.tape.trans h.tape, g.output.trans h.output, Nat.le_trans h.size g.size, fun k hk hn => (g.block k (Nat.lt_of_lt_of_le hk h.size) hn).trans (h.block k hk hn)⟩
theorem six {W : World} {b : Nat} {T : TypeId} {x0 x1 x2 x3 x4 x5 : Value} (y0 y1 y2 y3 y4 y5 : Value) (h : W.heap[b]? = some (.cells #[x0, x1, x2, x3, x4, x5] T (0, 0))) :
    W.cell? ⟨b, 0, none⟩ = some x0 ∧ W.frozen? ⟨b, 0, none⟩ = false ∧ (W.setCell ⟨b, 0, none⟩ y0).cell? ⟨b, 1, none⟩ = some x1 ∧ (W.setCell ⟨b, 0, none⟩ y0).frozen? ⟨b, 1, none⟩ = false ∧ ((W.setCell ⟨b, 0, none⟩ y0).setCell ⟨b, 1, none⟩ y1).cell? ⟨b, 2, none⟩ = some x2 ∧ ((W.setCell ⟨b, 0, none⟩ y0).setCell ⟨b, 1, none⟩ y1).frozen? ⟨b, 2, none⟩ = false ∧ (((W.setCell ⟨b, 0, none⟩ y0).setCell ⟨b, 1, none⟩ y1).setCell ⟨b, 2, none⟩ y2).cell? ⟨b, 3, none⟩ = some x3 ∧ (((W.setCell ⟨b, 0, none⟩ y0).setCell ⟨b, 1, none⟩ y1).setCell ⟨b, 2, none⟩ y2).frozen? ⟨b, 3, none⟩ = false ∧ ((((W.setCell ⟨b, 0, none⟩ y0).setCell ⟨b, 1, none⟩ y1).setCell ⟨b, 2, none⟩ y2).setCell ⟨b, 3, none⟩ y3).cell? ⟨b, 4, none⟩ = some x4 ∧ ((((W.setCell ⟨b, 0, none⟩ y0).setCell ⟨b, 1, none⟩ y1).setCell ⟨b, 2, none⟩ y2).setCell ⟨b, 3, none⟩ y3).frozen? ⟨b, 4, none⟩ = false ∧ (((((W.setCell ⟨b, 0, none⟩ y0).setCell ⟨b, 1, none⟩ y1).setCell ⟨b, 2, none⟩ y2).setCell ⟨b, 3, none⟩ y3).setCell ⟨b, 4, none⟩ y4).cell? ⟨b, 5, none⟩ = some x5 ∧ (((((W.setCell ⟨b, 0, none⟩ y0).setCell ⟨b, 1, none⟩ y1).setCell ⟨b, 2, none⟩ y2).setCell ⟨b, 3, none⟩ y3).setCell ⟨b, 4, none⟩ y4).frozen? ⟨b, 5, none⟩ = false ∧ ((((((W.setCell ⟨b, 0, none⟩ y0).setCell ⟨b, 1, none⟩ y1).setCell ⟨b, 2, none⟩ y2).setCell ⟨b, 3, none⟩ y3).setCell ⟨b, 4, none⟩ y4).setCell ⟨b, 5, none⟩ y5).heap[b]? = some (.cells #[y0, y1, y2, y3, y4, y5] T (0, 0)) ∧ But b W ((((((W.setCell ⟨b, 0, none⟩ y0).setCell ⟨b, 1, none⟩ y1).setCell ⟨b, 2, none⟩ y2).setCell ⟨b, 3, none⟩ y3).setCell ⟨b, 4, none⟩ y4).setCell ⟨b, 5, none⟩ y5) := by
  have g0 : (W.setCell ⟨b, 0, none⟩ y0).heap[b]? = some (.cells #[y0, x1, x2, x3, x4, x5] T (0, 0)) := heap_setCell_same _ _ 0 _ _ y0 h
  have g1 : ((W.setCell ⟨b, 0, none⟩ y0).setCell ⟨b, 1, none⟩ y1).heap[b]? = some (.cells #[y0, y1, x2, x3, x4, x5] T (0, 0)) := heap_setCell_same _ _ 1 _ _ y1 g0
  have g2 : (((W.setCell ⟨b, 0, none⟩ y0).setCell ⟨b, 1, none⟩ y1).setCell ⟨b, 2, none⟩ y2).heap[b]? = some (.cells #[y0, y1, y2, x3, x4, x5] T (0, 0)) := heap_setCell_same _ _ 2 _ _ y2 g1
  have g3 : ((((W.setCell ⟨b, 0, none⟩ y0).setCell ⟨b, 1, none⟩ y1).setCell ⟨b, 2, none⟩ y2).setCell ⟨b, 3, none⟩ y3).heap[b]? = some (.cells #[y0, y1, y2, y3, x4, x5] T (0, 0)) := heap_setCell_same _ _ 3 _ _ y3 g2
  have g4 : (((((W.setCell ⟨b, 0, none⟩ y0).setCell ⟨b, 1, none⟩ y1).setCell ⟨b, 2, none⟩ y2).setCell ⟨b, 3, none⟩ y3).setCell ⟨b, 4, none⟩ y4).heap[b]? = some (.cells #[y0, y1, y2, y3, y4, x5] T (0, 0)) := heap_setCell_same _ _ 4 _ _ y4 g3
  have g5 : ((((((W.setCell ⟨b, 0, none⟩ y0).setCell ⟨b, 1, none⟩ y1).setCell ⟨b, 2, none⟩ y2).setCell ⟨b, 3, none⟩ y3).setCell ⟨b, 4, none⟩ y4).setCell ⟨b, 5, none⟩ y5).heap[b]? = some (.cells #[y0, y1, y2, y3, y4, y5] T (0, 0)) := heap_setCell_same _ _ 5 _ _ y5 g4
  exact ⟨(cell_of_row _ _ 0 _ _ _ h).trans rfl, frozen_of_row _ _ _ _ _ h, (cell_of_row _ _ 1 _ _ _ g0).trans rfl, frozen_of_row _ _ _ _ _ g0, (cell_of_row _ _ 2 _ _ _ g1).trans rfl, frozen_of_row _ _ _ _ _ g1, (cell_of_row _ _ 3 _ _ _ g2).trans rfl, frozen_of_row _ _ _ _ _ g2, (cell_of_row _ _ 4 _ _ _ g3).trans rfl, frozen_of_row _ _ _ _ _ g3, (cell_of_row _ _ 5 _ _ _ g4).trans rfl, frozen_of_row _ _ _ _ _ g4, g5, ((((((but_setCell _ _ _ _).trans (but_setCell _ _ _ _)).trans (but_setCell _ _ _ _)).trans (but_setCell _ _ _ _)).trans (but_setCell _ _ _ _)).trans (but_setCell _ _ _ _))⟩
theorem rv_one {wx : World} {v : Rv} {mN mL mC mD mA mF : Nat} {xN xL xC xD xA xF : List Value} (h : ROwn wx v mN xN mL xL mC xC mD xD mA xA mF xF) : (#[v.n, v.l, v.c, v.d, v.a, v.f] : Array Value).all (·.oneCell') = true := by
  obtain ⟨an, cn, al, cl, ac, cc, ad, cd, aa, ca, af, cf, rfl⟩ := rown_forms h
  exact one6 _ _ _ _ _ _ _ _ _ _ _ _ _ _ _ _ _ _
theorem But.rown {b : Nat} {w w' : World} (h : But b w w') {v : Rv} {mN mL mC mD mA mF : Nat} {xN xL xC xD xA xF : List Value} {arr : Array Value} (hb : w.heap[b]? = some (.cells arr 36 (0, 0))) (H : ROwn w v mN xN mL xL mC xC mD xD mA xA mF xF) : ROwn w' v mN xN mL xL mC xC mD xD mA xA mF xF :=
  ⟨h.owns H.1 hb (by decide), h.owns H.2.1 hb (by decide), h.owns H.2.2.1 hb (by decide), h.owns H.2.2.2.1 hb (by decide), h.owns H.2.2.2.2.1 hb (by decide), h.owns H.2.2.2.2.2 hb (by decide)⟩
def dirAt (k : Nat) (m up : Int) : Nd := { dirNd (m % 4096) up with dev := (k : Int) }
theorem rdev_any (M : List Nd) (L : List It) (v : Rv) (m up : Int) (w : World) (F : List Int) (H : ROwn w v M.length (bares M) L.length (itCells L) M.length (covs M 0) M.length (deads M) M.length (ups M) F.length (ints F)) (hM : M.length ≤ 1000000) (hF : F.length ≤ 1000000) :
    Calls Tryz.prog 36 #[rvV v, .int .i64 m, .int .i64 up] w fun e w' => ∃ v', e = .returned (rvV v') ∧ ROwn w' v' (M.length + 1) (bares M ++ (addedNd (dirAt (F.length + 1) m up) (dirAt (F.length + 1) m up).dev M).bare) L.length (itCells L) (M.length + 1) (covs M 0 ++ [.int .i64 (-1)]) (M.length + 1) (deads M ++ [.bool false]) (M.length + 1) (ups M ++ [.int .i64 up]) (F.length + 1) (ints F ++ [.int .i64 (M.length : Int)]) ∧ Below w.heap.size w w' := by
  obtain ⟨an, cn, al, cl, ac, cc, ad, cd, aa, ca, af, cf, rfl⟩ := rown_forms H
  have D0 := DBox.begin w ⟨.slice an M.length cn, .slice al L.length cl, .slice ac M.length cc, .slice ad M.length cd, .slice aa M.length ca, .slice af F.length cf⟩
  unfold nilsR at D0
  unfold rvV
  go_enter Tryz.func36, Tryz.ntmps36
  go_wp2
  generalize (w.alloc (.cells #[.slice an M.length cn, .slice al L.length cl, .slice ac M.length cc, .slice ad M.length cd, .slice aa M.length ca, .slice af F.length cf] 36)).alloc (.cells #[.slice none 0 0, .slice none 0 0, .slice none 0 0, .slice none 0 0, .slice none 0 0, .slice none 0 0] 36) = wr at *
  have HH := Lib.hid H
  have HB2 := Lib.hid D0
  have HNb := Lib.hid (owns_keep H.2.2.2.2.2 D0.below)
  clear H D0
  obtain ⟨i0, hi, hz0, hz1, hz2⟩ := info_parts infoInt
  have HMX := Lib.hid (show 0 + F.length ≤ maxLen from by unfold maxLen; omega)
  have HMY := Lib.hid (show 0 + F.length + 1 ≤ maxLen from by unfold maxLen; omega)
  go_cut [] from 7 to 16 (fun wx => RD1 w wr F M.length ⟨.slice an M.length cn, .slice al L.length cl, .slice ac M.length cc, .slice ad M.length cd, .slice aa M.length ca, .slice af F.length cf⟩ wx)
  case first =>
    have hq0 : w.heap.size < wr.heap.size := heap_lt HB2.out.box
    have p0 : wr.cell? ⟨w.heap.size, 0, none⟩ = some (.slice an M.length cn) := by rw [cell_of_row _ _ _ _ _ _ HB2.out.box]; rfl
    have p5 : wr.cell? ⟨w.heap.size, 5, none⟩ = some (.slice af F.length cf) := by rw [cell_of_row _ _ _ _ _ _ HB2.out.box]; rfl
    have p0a : ∀ o, (wr.alloc o).cell? ⟨w.heap.size, 0, none⟩ = some (.slice an M.length cn) := fun o => (World.cell?_alloc_past _ _ _ hq0).trans p0
    have p5a : ∀ o, (wr.alloc o).cell? ⟨w.heap.size, 5, none⟩ = some (.slice af F.length cf) := fun o => (World.cell?_alloc_past _ _ _ hq0).trans p5
    have p0b : ∀ o o', ((wr.alloc o).alloc o').cell? ⟨w.heap.size, 0, none⟩ = some (.slice an M.length cn) := fun o o' => (World.cell?_alloc_past _ _ _ (by simp; omega)).trans (p0a o)
    have p5b : ∀ o o', ((wr.alloc o).alloc o').cell? ⟨w.heap.size, 5, none⟩ = some (.slice af F.length cf) := fun o o' => (World.cell?_alloc_past _ _ _ (by simp; omega)).trans (p5a o)
    have HS1 := Lib.hid (show ∀ o, (wr.alloc o).ownsRow 0 3 1 (.slice af F.length cf) F.length (ints F) from fun o => HNb.out.alloc o)
    have HS2 := Lib.hid (show ∀ o o', ((wr.alloc o).alloc o').ownsRow 0 3 1 (.slice af F.length cf) F.length (ints F) from fun o o' => (HNb.out.alloc o).alloc o')
    have HNX := Lib.hid (show ∀ W : World, W.heap[w.heap.size]? = some (.cells #[.slice an M.length cn, .slice al L.length cl, .slice ac M.length cc, .slice ad M.length cd, .slice aa M.length ca, .slice af F.length cf] 36 (0, 0)) → W.cell? ⟨w.heap.size, 0, none⟩ = some (.slice an M.length cn) from fun W hW => by rw [cell_of_row _ _ _ _ _ _ hW]; rfl)
    go_region_law (first
      | (refine step_append_row rfl (.tmp 7) (.tmp 9) 33 rfl wr.heap.size 3 i0 _ 1 8 Tryz.underlying33 hi hz0 hz1 hz2 rfl (by decide) (.slice (some ⟨wr.heap.size, 0, none⟩) 0 0) 0 [] (by simp [Act.eval, Act.put]) (owns_made (Nat.le_refl _)) (.slice af F.length cf) F.length (ints F) (by simp [Act.eval, Act.put]) (HS1.out _) (ints_one F) HMX.out (by omega) (by simp) ?_; intro v1 w1 hown1 hg1; have HGA := Lib.hid (undrew hg1); have HOA := Lib.hid hown1; have c0 := HNX.out _ ((grown_old hg1 (own_ge (owns_made (e := 3) (size := 1) (Nat.le_refl wr.heap.size))) (by simp; omega) hq0).trans ((heap_alloc_old _ _ hq0).trans HB2.out.box)); clear hown1 hg1)
      | (refine step_append_row rfl (.tmp 7) (.tmp 9) 33 rfl wr.heap.size 3 i0 _ 1 8 Tryz.underlying33 hi hz0 hz1 hz2 rfl (by decide) (.slice (some ⟨wr.heap.size, 0, none⟩) 0 0) 0 [] (by simp [Act.eval, Act.put]) ((owns_made (Nat.le_refl _)).alloc (.cells #[.int .i64 (M.length : Int)] 3)) (.slice af F.length cf) F.length (ints F) (by simp [Act.eval, Act.put]) (HS2.out (.cells #[] 3) (.cells #[.int .i64 (M.length : Int)] 3)) (ints_one F) HMX.out (by omega) (by simp <;> omega) ?_; intro v1 w1 hown1 hg1; have HGB := Lib.hid (undrew hg1); have HGD := Lib.hid (show ∀ j, (Value.slice (some ⟨wr.heap.size, 0, none⟩) 0 0).ownBlock = some j → wr.heap.size ≤ j from fun j => one_ge (Nat.le_refl _)); have HOB := Lib.hid hown1; have HEL := Lib.hid (one_b (x := .int .i64 (M.length : Int)) (undrew hg1) (by rw [own_some]; simp)); clear hown1 hg1)
      | (refine step_append_row rfl (.tmp 7) (.tmp 9) 33 rfl wr.heap.size 3 i0 _ 1 8 Tryz.underlying33 hi hz0 hz1 hz2 rfl (by decide) (.slice (some ⟨wr.heap.size + 1, 0, none⟩) 0 0) 0 [] (by simp [Act.eval, Act.put]) (own_c wr _) (.slice af F.length cf) F.length (ints F) (by simp [Act.eval, Act.put]) (HS2.out (.cells #[.int .i64 (M.length : Int)] 3) (.cells #[] 3)) (ints_one F) HMX.out (by omega) (by simp <;> omega) ?_; intro v1 w1 hown1 hg1; have HGB := Lib.hid (undrew hg1); have HGD := Lib.hid (show ∀ j, (Value.slice (some ⟨wr.heap.size + 1, 0, none⟩) 0 0).ownBlock = some j → wr.heap.size ≤ j from fun j => one_ge (by omega)); have HOB := Lib.hid hown1; have HEL := Lib.hid (one_c (x := .int .i64 (M.length : Int)) (undrew hg1) (by rw [own_some]; simp)); clear hown1 hg1)
      | (refine step_append_row rfl (.tmp 10) (.tmp 14) 33 rfl wr.heap.size 3 i0 _ 1 8 Tryz.underlying33 hi hz0 hz1 hz2 rfl (by decide) v1 (0 + F.length) ([] ++ ints F) (by simp [Act.eval, Act.put]) (HOA.out.alloc _) (.slice (some ⟨w1.heap.size, 0, none⟩) 1 1) 1 [.int .i64 (M.length : Int)] (by simp [Act.eval, Act.put]) (owns_single 1 rfl) (by intro u hu; simp at hu; subst hu; rfl) HMY.out (by omega) (by have := HGA.out.size; simp at this ⊢; omega) ?_; intro v2 w2 hown2 hg2; obtain ⟨g2, cap2, rfl, _, _⟩ := owns_some hown2 (by omega); have R := Lib.hid (rd1_a HB2.out HGA.out HOA.out hown2 hg2); have q2 := R.out.1; have q3 := R.out.2.1; clear hown2 hg2)
      | (refine step_append_row rfl (.tmp 10) (.tmp 14) 33 rfl wr.heap.size 3 i0 _ 1 8 Tryz.underlying33 hi hz0 hz1 hz2 rfl (by decide) v1 (0 + F.length) ([] ++ ints F) (by simp [Act.eval, Act.put]) HOB.out (.slice (some ⟨wr.heap.size + 1, 0, none⟩) 1 1) 1 [.int .i64 (M.length : Int)] (by simp [Act.eval, Act.put]) HEL.out (by intro u hu; simp at hu; subst hu; rfl) HMY.out (by omega) (by have := HGB.out.size; simp at this ⊢; omega) ?_; intro v2 w2 hown2 hg2; obtain ⟨g2, cap2, rfl, _, _⟩ := owns_some hown2 (by omega); have R := Lib.hid (rd1_b HB2.out HGB.out HGD.out HOB.out hown2 hg2); have q2 := R.out.1; have q3 := R.out.2.1; clear hown2 hg2)
      | (refine step_append_row rfl (.tmp 10) (.tmp 14) 33 rfl wr.heap.size 3 i0 _ 1 8 Tryz.underlying33 hi hz0 hz1 hz2 rfl (by decide) v1 (0 + F.length) ([] ++ ints F) (by simp [Act.eval, Act.put]) HOB.out (.slice (some ⟨wr.heap.size, 0, none⟩) 1 1) 1 [.int .i64 (M.length : Int)] (by simp [Act.eval, Act.put]) HEL.out (by intro u hu; simp at hu; subst hu; rfl) HMY.out (by omega) (by have := HGB.out.size; simp at this ⊢; omega) ?_; intro v2 w2 hown2 hg2; obtain ⟨g2, cap2, rfl, _, _⟩ := owns_some hown2 (by omega); have R := Lib.hid (rd1_b HB2.out HGB.out HGD.out HOB.out hown2 hg2); have q2 := R.out.1; have q3 := R.out.2.1; clear hown2 hg2))
    all_goals go_wp2
    all_goals go_meet
    all_goals exact R.out.2.2
  case rest =>
    obtain ⟨gf, kf, hbx, hon, hbut⟩ := hcut
    have hbox := HB2.out.box
    have HO := Lib.hid (show ROwn wc.drew ⟨.slice an M.length cn, .slice al L.length cl, .slice ac M.length cc, .slice ad M.length cd, .slice aa M.length ca, .slice (some ⟨gf, 0, none⟩) (F.length + 1) kf⟩ M.length (bares M) L.length (itCells L) M.length (covs M 0) M.length (deads M) M.length (ups M) (F ++ [(M.length : Int)]).length (ints (F ++ [(M.length : Int)])) from
      ⟨hbut.owns (owns_keep HH.out.1 HB2.out.below) hbox (by decide), hbut.owns (owns_keep HH.out.2.1 HB2.out.below) hbox (by decide), hbut.owns (owns_keep HH.out.2.2.1 HB2.out.below) hbox (by decide), hbut.owns (owns_keep HH.out.2.2.2.1 HB2.out.below) hbox (by decide), hbut.owns (owns_keep HH.out.2.2.2.2.1 HB2.out.below) hbox (by decide), by rw [List.length_append]; unfold ints; rw [List.map_append]; exact hon⟩)
    have HR := Lib.hid hbx
    have bx : ∀ j u, (#[.slice an M.length cn, .slice al L.length cl, .slice ac M.length cc, .slice ad M.length cd, .slice aa M.length ca, .slice (some ⟨gf, 0, none⟩) (F.length + 1) kf] : Array Value)[j]? = some u → wc.cell? ⟨w.heap.size, j, none⟩ = some u := fun j u hu => by rw [cell_of_row _ _ _ _ _ _ hbx.box]; exact hu
    have p0 := bx 0 _ rfl
    have p1 := bx 1 _ rfl
    have p2 := bx 2 _ rfl
    have p3 := bx 3 _ rfl
    have p4 := bx 4 _ rfl
    have p5 := bx 5 _ rfl
    clear hbx hon hbut hbox bx HB2 HNb
    go_wp2
    go_region_law (first
      | (go_simp; go_at_call 41; refine (bits_any m _).mono ?_; rintro e w1 ⟨rfl, rfl⟩)
      | (go_simp; go_at_call 40; refine (radd_any M L ⟨.slice an M.length cn, .slice al L.length cl, .slice ac M.length cc, .slice ad M.length cd, .slice aa M.length ca, .slice (some ⟨gf, 0, none⟩) (F.length + 1) kf⟩ (dirAt (F.length + 1) m up) up _ (F ++ [(M.length : Int)]) HO.out hM).mono ?_; rintro e w3 ⟨v3, rfl, ho3, hb3⟩; rw [List.length_append] at ho3; obtain ⟨an3, cn3, al3, cl3, ac3, cc3, ad3, cd3, aa3, ca3, af3, cf3, rfl⟩ := rown_forms ho3; unfold rvV; have HO3 := Lib.hid ho3; have HB3 := Lib.hid hb3; obtain ⟨t0, s0, t1, s1, t2, s2, t3, s3, t4, s4, t5, s5, h6, b6⟩ := six (.slice an3 (M.length + 1) cn3) (.slice al3 L.length cl3) (.slice ac3 (M.length + 1) cc3) (.slice ad3 (M.length + 1) cd3) (.slice aa3 (M.length + 1) ca3) (.slice af3 (F.length + 1) cf3) ((hb3.block _ (heap_lt HR.out.res)).trans HR.out.res); have H6 := Lib.hid h6; have B6 := Lib.hid b6; have HS3 := Lib.hid ((hb3.block _ (heap_lt HR.out.res)).trans HR.out.res); have HBL := Lib.hid (below_two (show Below w.heap.size w wc.drew from HR.out.below.drew) hb3); clear h6 b6; clear ho3 hb3))
    all_goals go_wp2
    all_goals refine bodyPost_ret (v := rvV ⟨.slice an3 (M.length + 1) cn3, .slice al3 L.length cl3, .slice ac3 (M.length + 1) cc3, .slice ad3 (M.length + 1) cd3, .slice aa3 (M.length + 1) ca3, .slice af3 (F.length + 1) cf3⟩) ?_ rfl ⟨⟨.slice an3 (M.length + 1) cn3, .slice al3 L.length cl3, .slice ac3 (M.length + 1) cc3, .slice ad3 (M.length + 1) cd3, .slice aa3 (M.length + 1) ca3, .slice af3 (F.length + 1) cf3⟩, rfl, ?_, ?_⟩
    all_goals first
      | exact results_cell_row Tryz.results36 _ _ (w.heap.size + 1) _ _ _ _ rfl H6.out Tryz.underlying36 rfl (by rw [sizeRef]; rfl)
      | (have R := But.rown B6.out HS3.out HO3.out; unfold ints at R ⊢; rw [List.map_append] at R; exact R)
      | exact B6.out.below HBL.out (by omega) HBL.out.size
end Go.Proofs.YtfhagjnlliafiaaGreatDoor.V
