/-
  Rows whose members are of several cells each: what came in, and what a call has made. Conditions: each fact's own.
-/
import Derived.Test.YtigkdehaepenhaaDoorTill
import Derived.Deep.AppendLies
import Derived.Deep.MidRow
import Derived.BigQuiet
set_option linter.unusedVariables false
namespace Go.Proofs.YtigkdehaepenhaaDoor.B
open Go.RowKit

/-! ### cells, member by member -/
def cellsC {α : Type} (f : α → List Value) : List α → List Value
  | [] => []
  | x :: r => f x ++ cellsC f r
section
variable {α : Type} {f : α → List Value} {k : Nat}
theorem cellsC_len (hk : ∀ x, (f x).length = k) : ∀ l, (cellsC f l).length = l.length * k
  | [] => by simp [cellsC]
  | x :: r => by rw [cellsC, List.length_append, hk, cellsC_len hk r, List.length_cons, Nat.add_mul]; omega
theorem cellsC_app : ∀ a b, cellsC f (a ++ b) = cellsC f a ++ cellsC f b
  | [], b => rfl
  | x :: r, b => by rw [List.cons_append, cellsC, cellsC, cellsC_app r b, List.append_assoc]
theorem cellsC_one (x : α) : cellsC f [x] = f x := by rw [cellsC, cellsC, List.append_nil]
theorem cellsC_get (hk : ∀ x, (f x).length = k) : ∀ (l : List α) (i j : Nat) (x : α), l[i]? = some x → j < k → (cellsC f l)[i * k + j]? = (f x)[j]?
  | [], i, j, x, h, _ => by simp at h
  | y :: r, 0, j, x, h, hj => by
    obtain rfl : y = x := by simpa using h
    rw [cellsC, Nat.zero_mul, Nat.zero_add, List.getElem?_append_left (by rw [hk]; exact hj)]
  | y :: r, i + 1, j, x, h, hj => by
    have h' : r[i]? = some x := by simpa using h
    rw [cellsC, List.getElem?_append_right (by rw [hk, Nat.add_mul]; omega), hk, show (i + 1) * k + j - k = i * k + j by rw [Nat.add_mul]; omega]
    exact cellsC_get hk r i j x h' hj
theorem cellsC_inv (hk : ∀ x, (f x).length = k) : ∀ (l : List α) (n : Nat) (u : Value), (cellsC f l)[n]? = some u → ∃ i j x, l[i]? = some x ∧ n = i * k + j ∧ (f x)[j]? = some u
  | [], n, u, h => by simp [cellsC] at h
  | y :: r, n, u, h => by
    rw [cellsC] at h
    by_cases q : n < k
    · rw [List.getElem?_append_left (by rw [hk]; exact q)] at h
      exact ⟨0, n, y, rfl, by omega, h⟩
    · rw [List.getElem?_append_right (by rw [hk]; omega), hk] at h
      obtain ⟨i, j, x, h1, h2, h3⟩ := cellsC_inv hk r (n - k) u h
      exact ⟨i + 1, j, x, by simpa using h1, by rw [Nat.add_mul]; omega, h3⟩
theorem cellsC_mem {P : Value → Prop} : ∀ (l : List α), (∀ x ∈ l, ∀ u ∈ f x, P u) → ∀ u ∈ cellsC f l, P u
  | [], _, u, hu => by cases hu
  | x :: r, h, u, hu => by
    rcases List.mem_append.1 hu with hu | hu
    · exact h x List.mem_cons_self u hu
    · exact cellsC_mem r (fun y hy => h y (List.mem_cons_of_mem _ hy)) u hu

/-! ### a slice's members -/
/-- The slice at a holds these, k cells each. -/
def RowL (k : Nat) (f : α → List Value) (w : World) (a : Option Addr) (l : List α) : Prop := l = [] ∨ ∃ g o, a = some ⟨g, o, none⟩ ∧ g < w.heap.size ∧ ∀ (i : Nat) (x : α), l[i]? = some x → w.rangeAt g (o + i * k) (f x)
theorem RowL.nil (w : World) (a : Option Addr) : RowL k f w a [] := .inl rfl
theorem RowL.keep {w w' : World} {a : Option Addr} {l : List α} (h : RowL k f w a l) (hb : Below w.heap.size w w') : RowL k f w' a l := by
  rcases h with h | ⟨g, o, h1, h0, h2⟩
  · exact .inl h
  · exact .inr ⟨g, o, h1, Nat.lt_of_lt_of_le h0 hb.size, fun i x hx j v hj => (hb.cell (p := ⟨g, _, none⟩) h0).trans (h2 i x hx j v hj)⟩
theorem RowL.at_ {w : World} {a : Option Addr} {l : List α} (h : RowL k f w a l) {i : Nat} {x : α} (hx : l[i]? = some x) : ∃ g o, a = some ⟨g, o, none⟩ ∧ g < w.heap.size ∧ w.rangeAt g (o + i * k) (f x) := by
  rcases h with h | ⟨g, o, h1, h0, h2⟩
  · rw [h] at hx; simp at hx
  · exact ⟨g, o, h1, h0, h2 i x hx⟩
theorem RowL.drop {w : World} {a : Option Addr} {l : List α} (h : RowL k f w a l) (i : Nat) (hi : i < l.length) : ∃ g o, a = some ⟨g, o, none⟩ ∧ RowL k f w (some ⟨g, o + i * k, none⟩) (l.drop i) := by
  rcases h with h | ⟨g, o, h1, h0, h2⟩
  · rw [h] at hi; simp at hi
  · refine ⟨g, o, h1, .inr ⟨g, o + i * k, rfl, h0, fun j x hx => ?_⟩⟩
    rw [List.getElem?_drop] at hx
    have := h2 (i + j) x hx
    rw [Nat.add_mul, ← Nat.add_assoc] at this
    exact this
theorem RowL.tail {w : World} {a : Option Addr} {x : α} {l : List α} (h : RowL k f w a (x :: l)) : ∃ g o, a = some ⟨g, o, none⟩ ∧ g < w.heap.size ∧ w.rangeAt g o (f x) ∧ RowL k f w (some ⟨g, o + k, none⟩) l := by
  rcases h with h | ⟨g, o, h1, h0, h2⟩
  · cases h
  · refine ⟨g, o, h1, h0, ?_, .inr ⟨g, o + k, rfl, h0, fun i y hy => ?_⟩⟩
    · have := h2 0 x rfl
      rwa [Nat.zero_mul, Nat.add_zero] at this
    · have := h2 (i + 1) y (by simpa using hy)
      rwa [show o + (i + 1) * k = o + k + i * k by rw [Nat.add_mul]; omega] at this
theorem RowL.of_owns {w : World} {base : Nat} {e : TypeId} {v : Value} {l : List α} (hk : ∀ x, (f x).length = k) (h : w.ownsRow base e k v l.length (cellsC f l)) : ∃ a cap, v = .slice a l.length cap ∧ RowL k f w a l ∧ l.length ≤ cap ∧ cap ≤ maxLen ∧ (a = none → cap = 0) := by
  rcases h.2 with ⟨rfl, h0⟩ | ⟨g, cap, cur, rfl, hb, hg, hnc, hcm, hcs, ht⟩
  · exact ⟨none, 0, by rw [h0], .inl (List.eq_nil_of_length_eq_zero h0), by omega, by unfold maxLen; omega, fun _ => rfl⟩
  · refine ⟨_, cap, rfl, .inr ⟨g, 0, rfl, heap_lt hg, fun i x hx j v hj => ?_⟩, hnc, hcm, fun q => by cases q⟩
    have hjk : j < k := by rw [← hk x]; exact (List.getElem?_eq_some_iff.1 hj).1
    rw [Nat.zero_add]
    refine owns_cell (n := l.length) (cap := cap) h ?_
    rw [cellsC_get hk l i j x hx hjk]
    exact hj
/-- The cells behind a slice's address, one by one. -/
theorem RowL.cells {w : World} {g o : Nat} {l : List α} (hk : ∀ x, (f x).length = k) (h : RowL k f w (some ⟨g, o, none⟩) l) : ∀ j u, (cellsC f l)[j]? = some u → w.cell? ((⟨g, o, none⟩ : Addr).add j) = some u := by
  intro n u hu
  obtain ⟨i, j, x, h1, rfl, h3⟩ := cellsC_inv hk l n u hu
  obtain ⟨g', o', e, _, hr⟩ := h.at_ h1
  simp only [Option.some.injEq, Addr.mk.injEq] at e
  obtain ⟨rfl, rfl, _⟩ := e
  rw [Addr.add_mid, ← Nat.add_assoc]
  exact hr j u h3
end

/-! ### append, with all members of a slice behind -/
section
variable {P : Program} {w : World} {α : Type} {f : α → List Value} {k : Nat}
theorem wp_append_rowL {o : Oper} {a : Act} {K : Act → World → Prop} {Q : Exit → Act → World → Prop} (s x : Operand) (t : TypeId)
    (ho : o.op = .call { callee := .builtin .append, args := #[s, x], argTypes := #[t, t] })
    (base : Nat) (e : TypeId) (i : TypeInfo) (z : Value) (bytes : Nat) (ht : P.underlying t = some (.slice e)) (hi : P.info? e = some i) (hz : i.zero = some z)
    (hsize : i.size = k) (hby : i.bytes = bytes) (hzs : z.cells.size = k) (hsz : 0 < k) (hk : ∀ x, (f x).length = k) (h1 : ∀ x, ∀ u ∈ f x, u.oneCell' = true)
    (v : Value) (n : Nat) (xs : List Value) (hs : a.eval s = v) (hown : w.ownsRow base e k v n xs) (la : Option Addr) (lc : Nat) (l : List α) (hx : a.eval x = .slice la l.length lc) (hsrc : RowL k f w la l) (hnil : la = none → lc = 0)
    (h63 : n + l.length ≤ maxLen) (hbytes : (n + l.length) * bytes ≤ 140737488355328) (hbase : base ≤ w.heap.size)
    (h : ∀ ao cp w', w'.ownsRow base e k (.slice ao (n + l.length) cp) (n + l.length) (xs ++ cellsC f l) → w.grownBy w' v.ownBlock → K (a.put o.dst (.slice ao (n + l.length) cp)) w') : o.wp P a w K Q := by
  cases la with
  | none =>
    obtain rfl := hnil rfl
    obtain rfl : l = [] := by
      rcases hsrc with q | ⟨g, o, q, _⟩
      · exact q
      · cases q
    obtain ⟨ao, cp, rfl⟩ := owns_form hown
    have hrun := run_append_owned_none (P := P) (w := w) base t o.type e i k ht hi _ n xs hown
    unfold Oper.wp
    simp [execOp, ho, resolve, invoke, builtin, hs, hx, hrun, Result.andThen]
    exact h ao cp w (by simpa [cellsC] using hown) ⟨rfl, rfl, rfl, Nat.le_refl _, fun _ _ _ => rfl⟩
  | some ad =>
    have hcells : ∀ j u, (cellsC f l)[j]? = some u → w.cell? (ad.add j) = some u := by
      rcases hsrc with rfl | ⟨g, o', q, q2⟩
      · intro j u hu; simp [cellsC] at hu
      · obtain rfl := Option.some.inj q
        exact RowL.cells hk (.inr ⟨g, o', rfl, q2⟩)
    refine wp_append_own w s x t ho base e i z k bytes ht hi hz hsize hby hzs hsz v n xs hs hown ad l.length lc (cellsC f l) hx (cellsC_len hk l) hcells (cellsC_mem l fun x _ => h1 x) h63 hbytes hbase (fun v' w' p q _ => ?_)
    obtain ⟨ao, cp, rfl⟩ := owns_form p
    exact h ao cp w' p q
theorem wpList_append_rowL {ops : Array Oper} {rest : List Oper} {o : Oper} {a : Act} {Q : Exit → Act → World → Prop} (hgd : o.guard = none) (s x : Operand) (t : TypeId)
    (ho : o.op = .call { callee := .builtin .append, args := #[s, x], argTypes := #[t, t] })
    (base : Nat) (e : TypeId) (i : TypeInfo) (z : Value) (bytes : Nat) (ht : P.underlying t = some (.slice e)) (hi : P.info? e = some i) (hz : i.zero = some z)
    (hsize : i.size = k) (hby : i.bytes = bytes) (hzs : z.cells.size = k) (hsz : 0 < k) (hk : ∀ x, (f x).length = k) (h1 : ∀ x, ∀ u ∈ f x, u.oneCell' = true)
    (v : Value) (n : Nat) (xs : List Value) (hs : a.eval s = v) (hown : w.ownsRow base e k v n xs) (la : Option Addr) (lc : Nat) (l : List α) (hx : a.eval x = .slice la l.length lc) (hsrc : RowL k f w la l) (hnil : la = none → lc = 0)
    (h63 : n + l.length ≤ maxLen) (hbytes : (n + l.length) * bytes ≤ 140737488355328) (hbase : base ≤ w.heap.size)
    (h : ∀ ao cp w', w'.ownsRow base e k (.slice ao (n + l.length) cp) (n + l.length) (xs ++ cellsC f l) → w.grownBy w' v.ownBlock → wpList P ops Q rest (a.put o.dst (.slice ao (n + l.length) cp)) w') : wpList P ops Q (o :: rest) a w :=
  wpList_plain hgd fun _ hK => wp_append_rowL s x t ho base e i z bytes ht hi hz hsize hby hzs hsz hk h1 v n xs hs hown la lc l hx hsrc hnil h63 hbytes hbase fun ao cp w' p q => hK _ _ (h ao cp w' p q)
theorem step_append_rowL {ops : Array Oper} {o : Oper} {a : Act} {K : Act → World → Prop} {Q : Exit → Act → World → Prop} {E : Prop} (hgd : o.guard = none) (s x : Operand) (t : TypeId)
    (ho : o.op = .call { callee := .builtin .append, args := #[s, x], argTypes := #[t, t] })
    (base : Nat) (e : TypeId) (i : TypeInfo) (z : Value) (bytes : Nat) (ht : P.underlying t = some (.slice e)) (hi : P.info? e = some i) (hz : i.zero = some z)
    (hsize : i.size = k) (hby : i.bytes = bytes) (hzs : z.cells.size = k) (hsz : 0 < k) (hk : ∀ x, (f x).length = k) (h1 : ∀ x, ∀ u ∈ f x, u.oneCell' = true)
    (v : Value) (n : Nat) (xs : List Value) (hs : a.eval s = v) (hown : w.ownsRow base e k v n xs) (la : Option Addr) (lc : Nat) (l : List α) (hx : a.eval x = .slice la l.length lc) (hsrc : RowL k f w la l) (hnil : la = none → lc = 0)
    (h63 : n + l.length ≤ maxLen) (hbytes : (n + l.length) * bytes ≤ 140737488355328) (hbase : base ≤ w.heap.size)
    (h : ∀ ao cp w', w'.ownsRow base e k (.slice ao (n + l.length) cp) (n + l.length) (xs ++ cellsC f l) → w.grownBy w' v.ownBlock → K (a.put o.dst (.slice ao (n + l.length) cp)) w') :
    if Region.wanted o (yielded ops a.tmps) = true then Oper.wp P o a w K Q else E := by
  have hw : Region.wanted o (yielded ops a.tmps) = true := by simp [Region.wanted, hgd]
  rw [if_pos hw]
  exact wp_append_rowL s x t ho base e i z bytes ht hi hz hsize hby hzs hsz hk h1 v n xs hs hown la lc l hx hsrc hnil h63 hbytes hbase h
end

/-- A row read whole in a region that draws its order and only reads. -/
theorem quiet_row {P : Program} {C : World → Prop} {K : Act → Prop} {o : Oper} {a : Act} (ty : TypeId) (x : Operand) (ho : o.op = .load ty x) (b off : Nat) (hx : a.eval x = .pointer (some ⟨b, off, none⟩)) (cs : List Value) (d : TypeDesc) (hc : ∀ w, C w → w.rangeAt b off cs)
    (hu : P.underlying ty = some d) (hd : d.isRow = true) (hi : (P.info? ty).map (·.size) = some cs.length) (h : K (a.put o.dst (.agg cs.toArray))) : o.quiet P a C K :=
  ⟨_, fun w hw => by
    unfold Oper.quietAt execOp
    simp only [ho, hx, Instr.loadAt, Instr.sureAddr, Sem.run_bind, Sem.run_pure, Result.andThen_ok, run_loadVar_mid w b off ty cs d (hc w hw) hu hd hi]
    exact ⟨rfl, rfl⟩, h⟩

/-! ### texts -/
def txC (s : ByteArray) : List Value := [.string s]
theorem txC_len (s : ByteArray) : (txC s).length = 1 := rfl
theorem txC_one (s : ByteArray) : ∀ u ∈ txC s, u.oneCell' = true := fun u hu => by
  obtain rfl : u = .string s := by simpa [txC] using hu
  rfl
theorem txC_strs : ∀ l, cellsC txC l = strs l
  | [] => rfl
  | x :: r => by rw [cellsC, txC_strs r]; rfl
theorem strs_one (l : List ByteArray) : ∀ u ∈ strs l, u.oneCell' = true := fun u hu => by
  obtain ⟨s, _, rfl⟩ := List.mem_map.1 hu
  rfl
theorem strs_len (l : List ByteArray) : (strs l).length = l.length := List.length_map _
theorem strs_app (a b : List ByteArray) : strs (a ++ b) = strs a ++ strs b := List.map_append
/-- The slice at a holds these texts. -/
abbrev TxtL (w : World) (a : Option Addr) (l : List ByteArray) : Prop := RowL 1 txC w a l
theorem txt_at {w : World} {a : Option Addr} {l : List ByteArray} (h : TxtL w a l) {i : Nat} {s : ByteArray} (hs : l[i]? = some s) : ∃ g o, a = some ⟨g, o, none⟩ ∧ g < w.heap.size ∧ w.cell? ⟨g, o + i, none⟩ = some (.string s) := by
  obtain ⟨g, o, h1, h0, h2⟩ := h.at_ hs
  rw [Nat.mul_one] at h2
  exact ⟨g, o, h1, h0, h2 0 _ rfl⟩
theorem txt_owns {w : World} {base : Nat} {e : TypeId} {v : Value} {l : List ByteArray} (h : w.ownsRow base e 1 v l.length (strs l)) : ∃ a cap, v = .slice a l.length cap ∧ TxtL w a l ∧ l.length ≤ cap ∧ cap ≤ maxLen ∧ (a = none → cap = 0) := by
  rw [← txC_strs] at h
  exact RowL.of_owns txC_len h
theorem txt_cells {w : World} {g o : Nat} {l : List ByteArray} (h : TxtL w (some ⟨g, o, none⟩) l) : ∀ j u, (strs l)[j]? = some u → w.cell? ((⟨g, o, none⟩ : Addr).add j) = some u := by
  rw [← txC_strs]
  exact RowL.cells txC_len h
end Go.Proofs.YtigkdehaepenhaaDoor.B
