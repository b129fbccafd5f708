/-
  The reference's file system in memory: six slices that hold the model's nodes and a list of entries; what its small functions return. Conditions: each fact's own.
  append of a row that is there already, onto an own row, in whatever place of a walk; what two appends and a store into a box leave. Conditions: each fact's own.
-/
import Derived.Test.YtigkdehaepenhaaGreatDoorVDevM
import Derived.Deep.QuietTactic
import Derived.BigQuiet
import Derived.Laws.AppendOwnNone
import Derived.Deep.RegionLaw
import Derived.Deep.CutRange
set_option linter.unusedVariables false
namespace Go.Proofs.YtigkdehaepenhaaGreatDoor.V
open Go.RowKit

/-- What is known of a node, but for its links. -/
def Nd.bare (n : Nd) : List Value := [.int .i64 n.dev, .int .i64 n.ino, .int .i64 n.kind, .int .i64 n.mode, .int .i64 n.uid, .int .i64 n.gid, .int .i64 n.size, .int .i64 n.blocks, .int .i64 0, .int .i64 n.t0, .int .i64 n.t1, .int .i64 n.t2, .string n.target]
theorem bare_len (n : Nd) : n.bare.length = 13 := rfl
def bares : List Nd → List Value
  | [] => []
  | n :: r => n.bare ++ bares r
/-- An entry of the reference's: where it stands, its name, its node. -/
structure It where
  at_ : Int
  name : ByteArray
  id : Int
def itCells : List It → List Value
  | [] => []
  | x :: r => .int .i64 x.at_ :: .string x.name :: .int .i64 x.id :: itCells r
/-- What covers the node number i: -1 for nothing. -/
def cov (i : Nat) (n : Nd) : Int := if n.over = (i : Int) then -1 else n.over
def covs : List Nd → Nat → List Value
  | [], _ => []
  | n :: r, i => .int .i64 (cov i n) :: covs r (i + 1)
def deads (M : List Nd) : List Value := M.map fun n => .bool n.dead
def ups (M : List Nd) : List Value := M.map fun n => .int .i64 n.up

theorem bares_len : ∀ M, (bares M).length = M.length * 13
  | [] => rfl
  | n :: r => by rw [bares, List.length_append, bare_len, bares_len r, List.length_cons]; omega
theorem bares_append : ∀ a b, bares (a ++ b) = bares a ++ bares b
  | [], b => rfl
  | n :: r, b => by rw [List.cons_append, bares, bares, bares_append r b, List.append_assoc]
theorem bares_one (n : Nd) : bares [n] = n.bare := by rw [bares, bares, List.append_nil]
theorem bares_get : ∀ (M : List Nd) (i k : Nat) (n : Nd), M[i]? = some n → k < 13 → (bares M)[i * 13 + k]? = n.bare[k]?
  | [], i, k, n, h, _ => by simp at h
  | m :: r, 0, k, n, h, hk => by
    simp at h
    subst h
    rw [bares, Nat.zero_mul, Nat.zero_add, List.getElem?_append_left (by rw [bare_len]; exact hk)]
  | m :: r, i + 1, k, n, h, hk => by
    have h' : r[i]? = some n := by simpa using h
    rw [bares, List.getElem?_append_right (by rw [bare_len]; omega), bare_len, show (i + 1) * 13 + k - 13 = i * 13 + k by omega]
    exact bares_get r i k n h' hk
theorem bares_set : ∀ (M : List Nd) (i k : Nat) (n n' : Nd) (u : Value), M[i]? = some n → k < 13 → n'.bare = n.bare.set k u → (bares M).set (i * 13 + k) u = bares (M.set i n')
  | [], i, k, n, n', u, h, _, _ => by simp at h
  | m :: r, 0, k, n, n', u, h, hk, hs => by
    simp at h
    subst h
    rw [bares, Nat.zero_mul, Nat.zero_add, List.set_append_left _ _ (by rw [bare_len]; exact hk), ← hs]
    rfl
  | m :: r, i + 1, k, n, n', u, h, hk, hs => by
    have h' : r[i]? = some n := by simpa using h
    rw [bares, List.set_append_right _ _ (by rw [bare_len]; omega), bare_len, show (i + 1) * 13 + k - 13 = i * 13 + k by omega, bares_set r i k n n' u h' hk hs]
    rfl
theorem itCells_len : ∀ l, (itCells l).length = l.length * 3
  | [] => rfl
  | x :: r => by rw [itCells, List.length_cons, List.length_cons, List.length_cons, itCells_len r, List.length_cons]; omega
theorem itCells_append : ∀ l m, itCells (l ++ m) = itCells l ++ itCells m
  | [], m => rfl
  | x :: r, m => by rw [List.cons_append, itCells, itCells, itCells_append r m]; rfl
theorem itCells_get : ∀ (l : List It) (i : Nat) (x : It), l[i]? = some x → (itCells l)[i * 3]? = some (.int .i64 x.at_) ∧ (itCells l)[i * 3 + 1]? = some (.string x.name) ∧ (itCells l)[i * 3 + 2]? = some (.int .i64 x.id)
  | [], i, x, h => by simp at h
  | y :: r, 0, x, h => by simp at h; subst h; exact ⟨rfl, rfl, rfl⟩
  | y :: r, i + 1, x, h => by
    have h' : r[i]? = some x := by simpa using h
    have := itCells_get r i x h'
    rw [itCells, show (i + 1) * 3 = i * 3 + 1 + 1 + 1 by omega]
    exact this
theorem covs_len : ∀ M i, (covs M i).length = M.length
  | [], i => rfl
  | n :: r, i => by rw [covs, List.length_cons, covs_len r, List.length_cons]
theorem covs_append : ∀ a b i, covs (a ++ b) i = covs a i ++ covs b (i + a.length)
  | [], b, i => by simp [covs]
  | n :: r, b, i => by rw [List.cons_append, covs, covs, covs_append r b, List.length_cons, show i + 1 + r.length = i + (r.length + 1) by omega]; rfl
theorem covs_get : ∀ (M : List Nd) (b i : Nat) (n : Nd), M[i]? = some n → (covs M b)[i]? = some (.int .i64 (cov (b + i) n))
  | [], b, i, n, h => by simp at h
  | m :: r, b, 0, n, h => by simp at h; subst h; rfl
  | m :: r, b, i + 1, n, h => by
    have h' : r[i]? = some n := by simpa using h
    rw [covs, List.getElem?_cons_succ, covs_get r (b + 1) i n h', show b + 1 + i = b + (i + 1) by omega]

/-- The reference's value: its six slices. -/
structure Rv where
  n : Value
  l : Value
  c : Value
  d : Value
  a : Value
  f : Value
def rvV (v : Rv) : Value := .agg #[v.n, v.l, v.c, v.d, v.a, v.f]
structure Rs (M : List Nd) (L : List It) (v : Rv) (w : World) : Prop where
  hn : w.ownsRow 0 62 13 v.n M.length (bares M)
  hl : w.ownsRow 0 102 3 v.l L.length (itCells L)
  hc : w.ownsRow 0 3 1 v.c M.length (covs M 0)
  hd : w.ownsRow 0 4 1 v.d M.length (deads M)
  ha : w.ownsRow 0 3 1 v.a M.length (ups M)
  hf : w.ownsRow 0 3 1 v.f (devL M 0).length (ints (devL M 0))
theorem owns_keep {w w' : World} {e : TypeId} {size n : Nat} {v : Value} {xs : List Value} (h : w.ownsRow 0 e size v n xs) (hb : Below w.heap.size w w') : w'.ownsRow 0 e size v n xs := owns_at h fun k hk => hb.block k (h.lt k hk).2
theorem Rs.keep {M : List Nd} {L : List It} {v : Rv} {w w' : World} (h : Rs M L v w) (hb : Below w.heap.size w w') : Rs M L v w' :=
  ⟨owns_keep h.hn hb, owns_keep h.hl hb, owns_keep h.hc hb, owns_keep h.hd hb, owns_keep h.ha hb, owns_keep h.hf hb⟩
/-- The six slices, written out. -/
theorem Rs.forms {M : List Nd} {L : List It} {v : Rv} {w : World} (h : Rs M L v w) :
    ∃ an cn al cl ac cc ad cd aa ca af cf, v = ⟨.slice an M.length cn, .slice al L.length cl, .slice ac M.length cc, .slice ad M.length cd, .slice aa M.length ca, .slice af (devL M 0).length cf⟩ := by
  obtain ⟨n, l, c, d, a, f⟩ := v
  obtain ⟨an, cn, hn⟩ := owns_form h.hn
  obtain ⟨al, cl, hl⟩ := owns_form h.hl
  obtain ⟨ac, cc, hc⟩ := owns_form h.hc
  obtain ⟨ad, cd, hd⟩ := owns_form h.hd
  obtain ⟨aa, ca, ha⟩ := owns_form h.ha
  obtain ⟨af, cf, hf⟩ := owns_form h.hf
  refine ⟨an, cn, al, cl, ac, cc, ad, cd, aa, ca, af, cf, ?_⟩
  simp only at hn hl hc hd ha hf
  rw [hn, hl, hc, hd, ha, hf]

set_option maxHeartbeats 1000000 in
theorem bits_any (m : Int) (w : World) :
    Calls Tryz.prog 43 #[.int .i64 m] w fun e w' => e = .returned (.int .i64 (m % 4096)) ∧ w = w' := by
  obtain ⟨r, hr, r0, r1⟩ : ∃ r, Int.tmod m 4096 = r ∧ -4096 < r ∧ r < 4096 := ⟨_, rfl, by have := Int.lt_tmod_of_pos m (show (0 : Int) < 4096 by decide); omega, Int.tmod_lt_of_pos m (by decide)⟩
  have HE := Lib.hid (show (r + 4096) % 4096 = m % 4096 from by rw [← hr, Int.tmod_eq_emod]; split <;> omega)
  have hq : Int.tmod (r + 4096) 4096 = m % 4096 := by rw [Int.tmod_eq_emod_of_nonneg (by omega)]; exact HE.out
  go_enter Tryz.func43, Tryz.ntmps43
  go_wp2
  go_ret
  exact ⟨rfl, rfl⟩

set_option maxHeartbeats 1000000 in
theorem refHas_any (M : List Nd) (L : List It) (v : Rv) (i : Int) (w : World) (H : Rs M L v w) :
    Calls Tryz.prog 10 #[rvV v, .int .i64 i] w fun e w' => e = .returned (.bool (decide (0 ≤ i ∧ i < (M.length : Int)))) ∧ Below w.heap.size w w' := by
  obtain ⟨an, cn, al, cl, ac, cc, ad, cd, aa, ca, af, cf, rfl⟩ := H.forms
  have HB := Lib.hid (show decide (0 ≤ i ∧ i < (M.length : Int)) = (decide (0 ≤ i) && decide (i < (M.length : Int))) from by simp)
  have HBa := Lib.hid (show ∀ o, Below w.heap.size w (w.alloc o) from fun o => (Below.refl _ _).alloc (Nat.le_refl _) _)
  clear H
  unfold rvV
  rcases Classical.em (0 ≤ i) with hi | hi
  · have d1 : decide (0 ≤ i) = true := decide_eq_true hi
    go_enter Tryz.func10, Tryz.ntmps10
    go_wp2
    go_ret
    exact ⟨ret_bool (by first | rfl | (rw [HB.out, d1]; rfl)), HBa.out _⟩
  · have d1 : decide (0 ≤ i) = false := decide_eq_false hi
    go_enter Tryz.func10, Tryz.ntmps10
    go_wp2
    go_ret
    exact ⟨ret_bool (by first | rfl | (rw [HB.out, d1]; rfl)), HBa.out _⟩

theorem owns_int {w : World} {v : Value} {l : List Int} {e : TypeId} (h : w.ownsRow 0 e 1 v l.length (ints l)) {k : Nat} (hk : k < l.length) : ∃ g cap, v = .slice (some ⟨g, 0, none⟩) l.length cap ∧ w.cell? ⟨g, k, none⟩ = some (.int .i64 (l[k]'hk)) ∧ g < w.heap.size := by
  obtain ⟨g, cap, rfl, _, _⟩ := owns_some h (by omega)
  refine ⟨g, cap, rfl, owns_cell h (by unfold ints; rw [List.getElem?_map, List.getElem?_eq_getElem hk]; rfl), (h.lt g rfl).2⟩

def FirstRel (l : List Int) (i : Int) (w : World) (v : Value) (wr : World) : Prop := ∃ k : Nat, k ≤ l.length ∧ v = .int .i64 (k : Int) ∧ wr = w ∧ ∀ j (hj : j < l.length), j < k → l[j] ≠ i

set_option maxRecDepth 100000 in
set_option maxHeartbeats 2000000 in
theorem first_any (M : List Nd) (L : List It) (v : Rv) (i : Int) (w : World) (H : Rs M L v w) (hM : M.length ≤ 1000000) :
    Calls Tryz.prog 78 #[rvV v, .int .i64 i] w fun e w' => e = .returned (.bool (decide (i ∈ devL M 0))) ∧ Below w.heap.size w w' := by
  have hdl := devL_len M 0
  have hf := H.hf
  obtain ⟨an, cn, al, cl, ac, cc, ad, cd, aa, ca, af, cf, rfl⟩ := H.forms
  generalize devL M 0 = l at *
  have HF := Lib.hid hf
  have HBa := Lib.hid (show ∀ o, Below w.heap.size w (w.alloc o) from fun o => (Below.refl _ _).alloc (Nat.le_refl _) _)
  clear H hf
  unfold rvV
  go_enter Tryz.func78, Tryz.ntmps78
  go_wp2
  generalize hw2 : w.alloc (.cells #[.slice an M.length cn, .slice al L.length cl, .slice ac M.length cc, .slice ad M.length cd, .slice aa M.length ca, .slice af l.length cf] 32) = w2
  have b2 : Below w.heap.size w w2 := by rw [← hw2]; exact HBa.out _
  have q5 : w2.cell? ⟨w.heap.size, 5, none⟩ = some (.slice af l.length cf) := by rw [← hw2, cell_of_row _ _ _ _ _ _ (heap_alloc_new _ _)]; rfl
  have HF2 := Lib.hid (owns_keep HF.out b2)
  have HB2 := Lib.hid b2
  clear hw2 b2
  go_loopw [5] (FirstRel l i w2) (fun v _ => l.length - (intOf v).toNat)
  case atStart => exact ⟨0, Nat.zero_le _, rfl, rfl, fun j _ hj => by omega⟩
  case round =>
    obtain ⟨k, hk, rfl, rfl, hno⟩ := hrel
    have HN := Lib.hid hno
    clear hno
    by_cases hlt : k < l.length
    · obtain ⟨g, cap, hv, hc, _⟩ := owns_int HF2.out hlt
      simp only [Value.slice.injEq, true_and] at hv
      obtain ⟨rfl, rfl⟩ := hv
      obtain ⟨y, hy⟩ : ∃ y, l[k]'hlt = y := ⟨_, rfl⟩
      rw [hy] at hc
      have HY := Lib.hid hy
      clear hy
      by_cases he : y = i
      · have e1 : (y == i) = true := by simp [he]
        have HM := Lib.hid (show i ∈ l from by rw [← he, ← HY.out]; exact List.getElem_mem _)
        clear he
        go_wp2
        go_ret
        exact ⟨ret_bool (decide_eq_true HM.out).symm, HB2.out⟩
      · have e1 : (y == i) = false := by simp [he]
        have HE := Lib.hid he
        clear he
        go_wp2
        go_roundw
        case rel =>
          refine ⟨k + 1, by omega, by simp, rfl, fun j hj hjk => ?_⟩
          rcases Nat.lt_or_ge j k with q | q
          · exact HN.out j hj q
          · have : j = k := by omega
            subst this
            rw [HY.out]
            exact HE.out
        case measure => simp [intOf]; omega
    · have HM := Lib.hid (show ¬ i ∈ l from fun e => by
        obtain ⟨j, hj, e⟩ := List.getElem_of_mem e
        exact HN.out j hj (by omega) e)
      go_wp2
      go_ret
      exact ⟨ret_bool (decide_eq_false HM.out).symm, HB2.out⟩
end Go.Proofs.YtigkdehaepenhaaGreatDoor.V

namespace Go.Proofs.YtigkdehaepenhaaGreatDoor.V
open Go.RowKit

section
variable {P : Program} {w : World}
theorem wp_append_row {o : Oper} {a : Act} {K : Act → World → Prop} {Q : Exit → Act → World → Prop} (s x : Operand) (t : TypeId)
    (ho : o.op = .call { callee := .builtin .append, args := #[s, x], argTypes := #[t, t] })
    (base : Nat) (e : TypeId) (i : TypeInfo) (z : Value) (size bytes : Nat) (ht : P.underlying t = some (.slice e)) (hi : P.info? e = some i) (hz : i.zero = some z)
    (hsize : i.size = size) (hby : i.bytes = bytes) (hzs : z.cells.size = size) (hsz : 0 < size)
    (v : Value) (n : Nat) (xs : List Value) (hs : a.eval s = v) (hown : w.ownsRow base e size v n xs) (u : Value) (m : Nat) (ys : List Value) (hx : a.eval x = u) (hsrc : w.ownsRow 0 e size u m ys) (h1 : ∀ y ∈ ys, y.oneCell' = true)
    (h63 : n + m ≤ maxLen) (hbytes : (n + m) * bytes ≤ 140737488355328) (hbase : base ≤ w.heap.size)
    (h : ∀ v' w', w'.ownsRow base e size v' (n + m) (xs ++ ys) → w.grownBy w' v.ownBlock → K (a.put o.dst v') w') : o.wp P a w K Q := by
  rcases hsrc.2 with ⟨rfl, rfl⟩ | ⟨g, cap, cur, rfl, _⟩
  · have hy : ys = [] := List.eq_nil_of_length_eq_zero (by simpa using hsrc.1)
    subst hy
    have hrun := run_append_owned_none (P := P) (w := w) base t o.type e i size ht hi v n xs hown
    unfold Oper.wp
    simp [execOp, ho, resolve, invoke, builtin, hs, hx, hrun, Result.andThen]
    exact h _ _ (by simpa using hown) ⟨rfl, rfl, rfl, Nat.le_refl _, fun _ _ _ => rfl⟩
  · exact wp_append_own w s x t ho base e i z size bytes ht hi hz hsize hby hzs hsz v n xs hs hown ⟨g, 0, none⟩ m cap ys hx hsrc.1 (hsrc.cells rfl) h1 h63 hbytes hbase (fun v' w' p q _ => h v' w' p q)
theorem wpList_append_row {ops : Array Oper} {rest : List Oper} {o : Oper} {a : Act} {Q : Exit → Act → World → Prop} (hgd : o.guard = none) (s x : Operand) (t : TypeId)
    (ho : o.op = .call { callee := .builtin .append, args := #[s, x], argTypes := #[t, t] })
    (base : Nat) (e : TypeId) (i : TypeInfo) (z : Value) (size bytes : Nat) (ht : P.underlying t = some (.slice e)) (hi : P.info? e = some i) (hz : i.zero = some z)
    (hsize : i.size = size) (hby : i.bytes = bytes) (hzs : z.cells.size = size) (hsz : 0 < size)
    (v : Value) (n : Nat) (xs : List Value) (hs : a.eval s = v) (hown : w.ownsRow base e size v n xs) (u : Value) (m : Nat) (ys : List Value) (hx : a.eval x = u) (hsrc : w.ownsRow 0 e size u m ys) (h1 : ∀ y ∈ ys, y.oneCell' = true)
    (h63 : n + m ≤ maxLen) (hbytes : (n + m) * bytes ≤ 140737488355328) (hbase : base ≤ w.heap.size)
    (h : ∀ v' w', w'.ownsRow base e size v' (n + m) (xs ++ ys) → w.grownBy w' v.ownBlock → wpList P ops Q rest (a.put o.dst v') w') : wpList P ops Q (o :: rest) a w :=
  wpList_plain hgd fun _ hK => wp_append_row s x t ho base e i z size bytes ht hi hz hsize hby hzs hsz v n xs hs hown u m ys hx hsrc h1 h63 hbytes hbase fun v' w' p q => hK _ _ (h v' w' p q)
theorem step_append_row {ops : Array Oper} {o : Oper} {a : Act} {K : Act → World → Prop} {Q : Exit → Act → World → Prop} {E : Prop} (hgd : o.guard = none) (s x : Operand) (t : TypeId)
    (ho : o.op = .call { callee := .builtin .append, args := #[s, x], argTypes := #[t, t] })
    (base : Nat) (e : TypeId) (i : TypeInfo) (z : Value) (size bytes : Nat) (ht : P.underlying t = some (.slice e)) (hi : P.info? e = some i) (hz : i.zero = some z)
    (hsize : i.size = size) (hby : i.bytes = bytes) (hzs : z.cells.size = size) (hsz : 0 < size)
    (v : Value) (n : Nat) (xs : List Value) (hs : a.eval s = v) (hown : w.ownsRow base e size v n xs) (u : Value) (m : Nat) (ys : List Value) (hx : a.eval x = u) (hsrc : w.ownsRow 0 e size u m ys) (h1 : ∀ y ∈ ys, y.oneCell' = true)
    (h63 : n + m ≤ maxLen) (hbytes : (n + m) * bytes ≤ 140737488355328) (hbase : base ≤ w.heap.size)
    (h : ∀ v' w', w'.ownsRow base e size v' (n + m) (xs ++ ys) → w.grownBy w' v.ownBlock → K (a.put o.dst v') w') :
    if Region.wanted o (yielded ops a.tmps) = true then Oper.wp P o a w K Q else E := by
  have hw : Region.wanted o (yielded ops a.tmps) = true := by simp [Region.wanted, hgd]
  rw [if_pos hw]
  exact wp_append_row s x t ho base e i z size bytes ht hi hz hsize hby hzs hsz v n xs hs hown u m ys hx hsrc h1 h63 hbytes hbase h
end

/-- All but one block is as it was. -/
structure But (b : Nat) (w w' : World) : Prop where
  os : w'.os = w.os
  tape : w'.tape = w.tape
  output : w'.output = w.output
  size : w.heap.size ≤ w'.heap.size
  block : ∀ k, k < w.heap.size → k ≠ b → w'.heap[k]? = w.heap[k]?
theorem But.owns {b : Nat} {w w' : World} (h : But b w w') {e : TypeId} {size n : Nat} {v : Value} {xs : List Value} (ho : w.ownsRow 0 e size v n xs) {arr : Array Value} {T : TypeId} {fr : Nat × Nat} (hb : w.heap[b]? = some (.cells arr T fr)) (hT : e ≠ T) : w'.ownsRow 0 e size v n xs :=
  owns_at ho fun k hk => h.block k (ho.lt k hk).2 (fun q => by
    subst q
    obtain ⟨cur, hc⟩ := owns_type ho hk
    rw [hb] at hc
    simp at hc
    exact hT hc.2.1.symm)
theorem But.below {b B : Nat} {w0 w w' : World} (h : But b w w') (h0 : Below B w0 w) (hB : B ≤ b) (hw : B ≤ w.heap.size) : Below B w0 w' :=
  h0.trans ⟨h.os, h.tape, h.output, h.size, fun k hk => h.block k (by omega) (by omega)⟩

theorem grown_old {A B : World} {row : Option Nat} {base k : Nat} (hg : A.grownBy B row) (hr : ∀ j, row = some j → base ≤ j) (hk : k < A.heap.size) (hb : k < base) : B.heap[k]? = A.heap[k]? :=
  hg.block k hk (fun e => by have := hr k e.symm; omega)

/-- Two appends behind one another, and the store of what they made into the box b. -/
theorem app_two {W W1 W2 : World} {o1 o2 : Obj} {r1 r2 : Option Nat} {b k : Nat} {v : Value} (h1 : (W.alloc o1).grownBy W1 r1) (h2 : (W1.alloc o2).grownBy W2 r2) (hr1 : ∀ j, r1 = some j → W.heap.size ≤ j) (hr2 : ∀ j, r2 = some j → W.heap.size ≤ j)
    {arr : Array Value} {T : TypeId} (hb : W.heap[b]? = some (.cells arr T (0, 0))) :
    W2.heap[b]? = some (.cells arr T (0, 0)) ∧ But b W (W2.setCell ⟨b, k, none⟩ v) ∧ (W2.setCell ⟨b, k, none⟩ v).heap[b]? = some (.cells (arr.setIfInBounds k v) T (0, 0)) := by
  have hbl := heap_lt hb
  have s1 : W.heap.size ≤ W1.heap.size := Nat.le_trans (by simp) h1.size
  have s2 : W1.heap.size ≤ W2.heap.size := Nat.le_trans (by simp) h2.size
  have keep : ∀ j, j < W.heap.size → W2.heap[j]? = W.heap[j]? := fun j hj => by
    rw [grown_old h2 hr2 (by simp; omega) hj, heap_alloc_old _ _ (by omega), grown_old h1 hr1 (by simp; omega) hj, heap_alloc_old _ _ hj]
  have hb2 : W2.heap[b]? = some (.cells arr T (0, 0)) := (keep b hbl).trans hb
  refine ⟨hb2, ⟨?_, ?_, ?_, ?_, ?_⟩, heap_setCell_same _ _ _ _ _ _ hb2⟩
  · exact h2.os.trans h1.os
  · exact h2.tape.trans h1.tape
  · exact h2.output.trans h1.output
  · rw [size_setCell]; omega
  · intro j hj hjb
    rw [heap_setCell_other _ _ _ _ (by exact hjb)]
    exact keep j hj
/-- The same, both new blocks laid ahead of the appends. -/
theorem app_two' {W W1 W2 : World} {o1 o2 : Obj} {r1 r2 : Option Nat} {b k : Nat} {v : Value} (h1 : ((W.alloc o1).alloc o2).grownBy W1 r1) (h2 : W1.grownBy W2 r2) (hr1 : ∀ j, r1 = some j → W.heap.size ≤ j) (hr2 : ∀ j, r2 = some j → W.heap.size ≤ j)
    {arr : Array Value} {T : TypeId} (hb : W.heap[b]? = some (.cells arr T (0, 0))) :
    W2.heap[b]? = some (.cells arr T (0, 0)) ∧ But b W (W2.setCell ⟨b, k, none⟩ v) ∧ (W2.setCell ⟨b, k, none⟩ v).heap[b]? = some (.cells (arr.setIfInBounds k v) T (0, 0)) := by
  have hbl := heap_lt hb
  have s1 : W.heap.size ≤ W1.heap.size := Nat.le_trans (by simp; omega) h1.size
  have s2 : W1.heap.size ≤ W2.heap.size := h2.size
  have keep : ∀ j, j < W.heap.size → W2.heap[j]? = W.heap[j]? := fun j hj => by
    rw [grown_old h2 hr2 (by omega) hj, grown_old h1 hr1 (by simp; omega) hj, heap_alloc_old _ _ (by simp; omega), heap_alloc_old _ _ hj]
  have hb2 : W2.heap[b]? = some (.cells arr T (0, 0)) := (keep b hbl).trans hb
  refine ⟨hb2, ⟨?_, ?_, ?_, ?_, ?_⟩, heap_setCell_same _ _ _ _ _ _ hb2⟩
  · exact h2.os.trans h1.os
  · exact h2.tape.trans h1.tape
  · exact h2.output.trans h1.output
  · rw [size_setCell]; omega
  · intro j hj hjb
    rw [heap_setCell_other _ _ _ _ (by exact hjb)]
    exact keep j hj
theorem owns_made {W : World} {e : TypeId} {size base : Nat} (hb : base ≤ W.heap.size) : (W.alloc (.cells #[] e)).ownsRow base e size (.slice (some ⟨W.heap.size, 0, none⟩) 0 0) 0 [] := World.ownsRow_made W #[] 0 hb (by decide) (by simp)
theorem own_ge {w : World} {base : Nat} {e : TypeId} {size n : Nat} {v : Value} {xs : List Value} (h : w.ownsRow base e size v n xs) : ∀ j, v.ownBlock = some j → base ≤ j := fun j hj => (h.lt j hj).1
theorem owns_single {W : World} {e : TypeId} {xs : List Value} (size : Nat) (hs : xs.length = size) : (W.alloc (.cells xs.toArray e)).ownsRow 0 e size (.slice (some ⟨W.heap.size, 0, none⟩) 1 1) 1 xs :=
  ⟨by omega, .inr ⟨W.heap.size, 1, xs.toArray, rfl, Nat.zero_le _, heap_alloc_new _ _, Nat.le_refl _, by decide, by simp [hs], by simp; exact List.take_of_length_le (by omega)⟩⟩
theorem owns_set {W2 : World} {b k base : Nat} {e : TypeId} {size n : Nat} {v u : Value} {xs : List Value} (h : W2.ownsRow base e size v n xs) (hb : b < base) : (W2.setCell ⟨b, k, none⟩ u).ownsRow 0 e size v n xs := by
  obtain ⟨h1, h2⟩ := h
  refine ⟨h1, ?_⟩
  rcases h2 with q | ⟨g, cap, cur, rfl, hg, hh, rest⟩
  · exact .inl q
  · exact .inr ⟨g, cap, cur, rfl, Nat.zero_le _, by rw [heap_setCell_other _ _ _ _ (show g ≠ b by omega)]; exact hh, rest⟩
theorem bares_one' (M : List Nd) : ∀ u ∈ bares M, u.oneCell' = true := by
  induction M with
  | nil => intro u hu; cases hu
  | cons n r ih =>
    intro u hu
    rcases List.mem_append.1 hu with q | q
    · simp only [Nd.bare, List.mem_cons, List.mem_nil_iff, or_false] at q
      rcases q with rfl | rfl | rfl | rfl | rfl | rfl | rfl | rfl | rfl | rfl | rfl | rfl | rfl
      all_goals rfl
    · exact ih u q
theorem covs_one : ∀ (M : List Nd) (i : Nat), ∀ u ∈ covs M i, u.oneCell' = true
  | [], i, u, hu => by cases hu
  | n :: r, i, u, hu => by
    rcases List.mem_cons.1 hu with rfl | q
    · rfl
    · exact covs_one r (i + 1) u q
theorem deads_one (M : List Nd) : ∀ u ∈ deads M, u.oneCell' = true := fun u hu => by
  obtain ⟨n, _, rfl⟩ := List.mem_map.1 hu
  rfl
theorem ups_one (M : List Nd) : ∀ u ∈ ups M, u.oneCell' = true := fun u hu => by
  obtain ⟨n, _, rfl⟩ := List.mem_map.1 hu
  rfl
theorem ints_one (l : List Int) : ∀ u ∈ ints l, u.oneCell' = true := fun u hu => by
  obtain ⟨n, _, rfl⟩ := List.mem_map.1 hu
  rfl
theorem its_one : ∀ (l : List It), ∀ u ∈ itCells l, u.oneCell' = true
  | [], u, hu => by cases hu
  | x :: r, u, hu => by
    rw [itCells] at hu
    rcases List.mem_cons.1 hu with rfl | q
    · rfl
    rcases List.mem_cons.1 q with rfl | q
    · rfl
    rcases List.mem_cons.1 q with rfl | q
    · rfl
    exact its_one r u q
end Go.Proofs.YtigkdehaepenhaaGreatDoor.V
