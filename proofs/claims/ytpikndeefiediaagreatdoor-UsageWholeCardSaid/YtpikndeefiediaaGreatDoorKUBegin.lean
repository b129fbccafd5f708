/-
  A set, kept as a map whose elements are true (or hold nothing): made, asked, added to. Conditions: each fact's own.
  A sum under way, as it lies in memory: its cells, what was met, its lines; what a store in it leaves. Conditions: each fact's own.
  A sum begun: its cells, as the program lays them. Conditions: each fact's own.
-/
import Derived.Maps.Own
import Derived.Maps.OwnSet
import Derived.Maps.Views
import Derived.BigFrame
import Derived.Test.YtpikndeefiediaaGreatDoorKRow
import Derived.Test.YtpikndeefiediaaGreatDoorKGTab
import Derived.DeepKeys4
import Derived.LaidMore
import Derived.Deep.WholeRow
import Derived.StillTailTactics
import Derived.Deep.RegionWith
set_option linter.unusedVariables false
namespace Go.Proofs.YtpikndeefiediaaGreatDoor.B
open Go.Maps Go.ChangeMaps Go.MapKept

section
variable {P : Program} {k : TypeId} {R : Value → Option (DataW Unit × List MemPlace)} {u : DataW Unit} {w : World} {b : Nat} {S : List Value}
/-- Block b is a set of just these keys. -/
def MetAt (P : Program) (k : TypeId) (R : Value → Option (DataW Unit × List MemPlace)) (u : DataW Unit) (w : World) (b : Nat) (S : List Value) : Prop :=
  ∃ ls : List Lit, S.map (keyOf P k) = ls.map some ∧ w.ownsMap P k R b S.length (setOf u ls)
theorem MetAt.made (w : World) (P : Program) (k : TypeId) (R : Value → Option (DataW Unit × List MemPlace)) (u : DataW Unit) : MetAt P k R u (w.alloc (.map #[] 0)) w.heap.size [] :=
  ⟨[], rfl, World.ownsMap_made w P k R⟩
theorem MetAt.lt (h : MetAt P k R u w b S) : b < w.heap.size := by
  obtain ⟨ls, _, h⟩ := h
  exact h.lt
theorem MetAt.kept {w' : World} {row : Option Nat} (h : MetAt P k R u w b S) (hg : w.grownBy w' row) (hne : some b ≠ row) : MetAt P k R u w' b S := by
  obtain ⟨ls, h1, h2⟩ := h
  exact ⟨ls, h1, h2.kept hg hne⟩
theorem MetAt.at_ {w' : World} (h : MetAt P k R u w b S) (hb : w'.heap[b]? = w.heap[b]?) : MetAt P k R u w' b S := by
  obtain ⟨ls, h1, es, clock, hh, F, hs, hD⟩ := h
  exact ⟨ls, h1, es, clock, hb.trans hh, F, hs, hD⟩
theorem met_keys (K : Keyed P k) {ls : List Lit} (h : S.map (keyOf P k) = ls.map some) : ∀ x ∈ ls, WideAt.IsKeyLit x := fun x hx => by
  have : some x ∈ ls.map some := List.mem_map.2 ⟨x, hx, rfl⟩
  rw [← h] at this
  obtain ⟨v, _, hv⟩ := List.mem_map.1 this
  exact K.key hv
theorem met_any (K : Keyed P k) {ls : List Lit} (h : S.map (keyOf P k) = ls.map some) {key : Value} {kl : Lit} (hkey : keyOf P k key = some kl) : (ls.any (fun x => x.sameKey kl) = true ↔ key ∈ S) := by
  rw [List.any_eq_true]
  constructor
  · rintro ⟨x, hx, hs⟩
    have hxk : x = kl := WideAt.sameKey_eq hs
    subst hxk
    have : some x ∈ ls.map some := List.mem_map.2 ⟨x, hx, rfl⟩
    rw [← h] at this
    obtain ⟨v, hv, hvk⟩ := List.mem_map.1 this
    rwa [K.inj hkey hvk]
  · intro hm
    have : some kl ∈ S.map (keyOf P k) := List.mem_map.2 ⟨key, hm, hkey⟩
    rw [h] at this
    obtain ⟨x, hx, e⟩ := List.mem_map.1 this
    obtain rfl := Option.some.inj e
    exact ⟨x, hx, WideAt.sameKey_self (K.key hkey)⟩
theorem met_has (K : Keyed P k) {ls : List Lit} (h : S.map (keyOf P k) = ls.map some) {key : Value} {kl : Lit} (hkey : keyOf P k key = some kl) : (Maps.has (setOf u ls) kl = true ↔ key ∈ S) := by
  rw [has_setOf u kl ls (met_keys K h)]
  exact met_any K h hkey
/-- What stands at a key of a set. -/
theorem setOf_at (u zd : DataW Unit) (kl : Lit) : ∀ (ls : List Lit) (m : DataW Unit), Maps.IsMap m → (∀ x ∈ ls, WideAt.IsKeyLit x) → (ls.foldl (fun m x => m.put x u) m).atKey kl zd = if ls.any (fun x => x.sameKey kl) = true then u else m.atKey kl zd
  | [], m, _, _ => by simp
  | x :: r, m, hm, hk => by
    rw [List.foldl_cons, setOf_at u zd kl r (m.put x u) (hm.put x u) (fun y hy => hk y (List.mem_cons_of_mem _ hy)), List.any_cons]
    have hx := hk x List.mem_cons_self
    by_cases e : kl = x
    · subst e
      rw [WideAt.sameKey_self hx, atKey_put_same hm hx]
      simp
    · rw [sameKey_ne (fun e' => e e'.symm), atKey_put_other e]
      simp
theorem met_at (K : Keyed P k) {ls : List Lit} (h : S.map (keyOf P k) = ls.map some) {key : Value} {kl : Lit} (hkey : keyOf P k key = some kl) (zd : DataW Unit) : (key ∈ S ∧ (setOf u ls).atKey kl zd = u) ∨ (key ∉ S ∧ (setOf u ls).atKey kl zd = zd) := by
  have e := setOf_at u zd kl ls (.map []) isMap_empty (met_keys K h)
  have hm := met_any K h hkey
  by_cases q : key ∈ S
  · exact .inl ⟨q, by unfold setOf; rw [e, if_pos (hm.2 q)]⟩
  · exact .inr ⟨q, by unfold setOf; rw [e, if_neg (fun z => q (hm.1 z))]; rfl⟩

/-- A pair of integers is a key. -/
theorem key_pair {e : TypeId} {q : IntKind} (hu : P.underlying k = some (.array 2 e)) (he : P.underlying e = some (.int q)) (hc : P.cellsOf k = 2) (hce : P.cellsOf e = 1) (hkt : P.keyType k = true) (hn : 0 < P.types.size) {a c : Int} (ha : (Lit.int q a).wf = true) (hb : (Lit.int q c).wf = true) : ∃ kl, keyOf P k (.agg #[.int q a, .int q c]) = some kl := by
  obtain ⟨m, hm⟩ : ∃ m, P.types.size = m + 1 := ⟨P.types.size - 1, by omega⟩
  have one : ∀ x, (Lit.int q x).wf = true → P.keyLits (m + 1) e [.int q x] = some [.int q x] := fun x hx => by
    unfold Program.keyLits
    rw [he]
    simp [hx]
  unfold keyOf
  rw [hu, hm]
  dsimp only
  have hf : (P.keyType k && (Value.agg #[Value.int q a, Value.int q c]).formed P k) = true := by simp [Value.formed, hu, hc, hkt]
  rw [if_pos hf]
  have hl : P.keyLits (m + 1 + 1) k (Value.agg #[Value.int q a, Value.int q c]).cells.toList = some [.int q a, .int q c] := by
    unfold Program.keyLits
    rw [hu]
    simp [Value.cells, hc, hce, List.range_succ, one a ha, one c hb]
  rw [hl]
  exact ⟨_, rfl⟩

/-! ### asked, and added to -/
theorem boolElem_inv {E : TypeId} (he : P.underlying E = some .bool) {v : Value} {x : Bool} {ps : List MemPlace} (h : plainElem (H := Unit) P E v = some (.lit (.bool x), ps)) : v = .bool x := by
  unfold plainElem at h
  rw [he] at h
  cases v with
  | bool y => simp at h; rw [h.1]
  | _ => simp at h
/-- 'm[key]', whose elements are bools. -/
theorem MetAt.look {E t : TypeId} (h : MetAt P k (plainElem P E) (.lit (.bool true)) w b S) (K : Keyed P k) (ht : P.underlying t = some (.map k E)) (he : P.underlying E = some .bool) (hz : (zeroValue E).run P w = .ok (.bool false) w)
    {key : Value} {kl : Lit} (hkey : keyOf P k key = some kl) : ∃ c : Bool, (c = true ↔ key ∈ S) ∧ (Instr.lookup t (.map (some b)) key false).run P w = .ok (.bool c) w := by
  obtain ⟨ls, h1, h2⟩ := h
  obtain ⟨v, ps, hrun, hv⟩ := h2.lookup K ht hz (plainElem_bool he false) hkey
  rcases met_at (u := .lit (.bool true)) K h1 hkey (.lit (.bool false)) with ⟨q, e⟩ | ⟨q, e⟩
  · rw [e] at hv
    exact ⟨true, ⟨fun _ => q, fun _ => rfl⟩, by rw [hrun, boolElem_inv he hv]⟩
  · rw [e] at hv
    exact ⟨false, ⟨fun z => (by cases z), fun z => absurd z q⟩, by rw [hrun, boolElem_inv he hv]⟩
/-- 'v, ok := m[key]', whose elements are bools. -/
theorem MetAt.look_ok {E t : TypeId} (h : MetAt P k (plainElem P E) (.lit (.bool true)) w b S) (K : Keyed P k) (ht : P.underlying t = some (.map k E)) (he : P.underlying E = some .bool) (hz : (zeroValue E).run P w = .ok (.bool false) w)
    {key : Value} {kl : Lit} (hkey : keyOf P k key = some kl) : ∃ c : Bool, (c = true ↔ key ∈ S) ∧ (Instr.lookup t (.map (some b)) key true).run P w = .ok (.tuple #[.bool c, .bool c]) w := by
  obtain ⟨ls, h1, h2⟩ := h
  obtain ⟨v, ps, hrun, hv⟩ := h2.look_ok K ht hz (plainElem_bool he false) hkey
  have hh := met_has (u := .lit (.bool true)) K h1 hkey
  rcases met_at (u := .lit (.bool true)) K h1 hkey (.lit (.bool false)) with ⟨q, e⟩ | ⟨q, e⟩
  · rw [e] at hv
    rw [hh.2 q, boolElem_inv he hv] at hrun
    exact ⟨true, ⟨fun _ => q, fun _ => rfl⟩, hrun⟩
  · rw [e] at hv
    have : Maps.has (H := Unit) (setOf (.lit (.bool true)) ls) kl = false := by rw [← Bool.not_eq_true]; exact fun z => q (hh.1 z)
    rw [this, boolElem_inv he hv] at hrun
    exact ⟨false, ⟨fun z => (by cases z), fun z => absurd z q⟩, hrun⟩
/-- '_, ok := m[key]', whose elements hold nothing. -/
theorem MetAt.look_unit {E t : TypeId} (h : MetAt P k (unitElem (H := Unit)) (.agg []) w b S) (K : Keyed P k) (ht : P.underlying t = some (.map k E)) (hz : (zeroValue E).run P w = .ok (.agg #[]) w)
    {key : Value} {kl : Lit} (hkey : keyOf P k key = some kl) : ∃ c : Bool, (c = true ↔ key ∈ S) ∧ (Instr.lookup t (.map (some b)) key true).run P w = .ok (.tuple #[.agg #[], .bool c]) w := by
  obtain ⟨ls, h1, h2⟩ := h
  obtain ⟨v, ps, hrun, hv⟩ := h2.look_ok K ht hz unitElem_mk hkey
  obtain ⟨rfl, _⟩ := unitElem_inv hv
  exact ⟨_, met_has (u := .agg []) K h1 hkey, hrun⟩
/-- 'm[key] = true', or '= struct{}{}'. -/
theorem MetAt.store {E t : TypeId} (h : MetAt P k R u w b S) (K : Keyed P k) (ht : P.underlying t = some (.map k E)) (hn : S.length < maxLen) {key val : Value} {kl : Lit} {ps : List MemPlace}
    (hkey : keyOf P k key = some kl) (hv : R val = some (u, ps)) : ∃ w', (Instr.mapUpdate t (.map (some b)) key val).run P w = .ok () w' ∧ MetAt P k R u w' b (S ++ [key]) ∧ w.grownBy w' (some b) := by
  obtain ⟨ls, h1, h2⟩ := h
  obtain ⟨w', hrun, ho, hg⟩ := h2.update K ht hn hkey hv
  refine ⟨w', hrun, ⟨ls ++ [kl], ?_, ?_⟩, hg⟩
  · rw [List.map_append, List.map_append, h1, List.map_singleton, List.map_singleton, hkey]
  · rw [setOf_snoc, List.length_append]
    exact ho
end

/-! ### at the operation -/
section
variable {P : Program} {k : TypeId} {R : Value → Option (DataW Unit × List MemPlace)} {u : DataW Unit} {w : World} {b : Nat} {S : List Value}
theorem wp_met_store {o : Oper} {a : Act} {K' : Act → World → Prop} {Q : Exit → Act → World → Prop} (m x v : Operand) (t : TypeId) (hop : o.op = Op.mapUpdate t m x v) {E : TypeId}
    (h : MetAt P k R u w b S) (K : Keyed P k) (ht : P.underlying t = some (.map k E)) (hn : S.length < maxLen)
    (hm : a.eval m = .map (some b)) (key val : Value) (hx : a.eval x = key) (hv : a.eval v = val) (kl : Lit) (hkey : keyOf P k key = some kl) (ps : List MemPlace) (hval : R val = some (u, ps))
    (hK : ∀ w', MetAt P k R u w' b (S ++ [key]) → w.grownBy w' (some b) → K' (a.put o.dst undef) w') : o.wp P a w K' Q := by
  obtain ⟨w', hrun, r1, r2⟩ := h.store K ht hn hkey hval
  unfold Oper.wp
  simp [execOp, hop, hm, hx, hv, hrun, Result.andThen]
  exact hK w' r1 r2
end
end Go.Proofs.YtpikndeefiediaaGreatDoor.B

namespace Go.Proofs.YtpikndeefiediaaGreatDoor.U
open Go.Proofs.YtpikndeefiediaaGreatDoor.B
open Go.RowKit Go.Maps

/-! ### how is asked -/
structure How where
  all : Bool
  most : Int
  each : Bool
  unit : Int
def howV (H : How) : Value := .agg #[.bool H.all, .int .i64 H.most, .bool H.each, .int .i64 H.unit]
/-- A node's key. -/
def keyV (n : P.Nv) : Value := .agg #[.int .i64 n.dev, .int .i64 n.ino]
theorem unU : Tryz.prog.underlying 127 = some (.array 2 3) := by kernel_rfl
theorem key_any (n : P.Nv) (h1 : -9223372036854775808 ≤ n.dev ∧ n.dev ≤ 9223372036854775807) (h2 : -9223372036854775808 ≤ n.ino ∧ n.ino ≤ 9223372036854775807) : ∃ kl, keyOf Tryz.prog 127 (keyV n) = some kl :=
  key_pair unU Tryz.underlying3 (by kernel_rfl) (by kernel_rfl) (by kernel_rfl) (of_decide_eq_true (by kernel_rfl)) (WalkArith.wf_i64 h1) (WalkArith.wf_i64 h2)

/-! ### the cells -/
structure CC (p mb : Nat) (H : How) (wh : Int) (lv : Value) (cs : Array Value) : Prop where
  size : cs.size = 210
  c0 : cs[0]? = some (.pointer (some ⟨p, 0, none⟩))
  c1 : cs[1]? = some (.bool H.all)
  c2 : cs[2]? = some (.int .i64 H.most)
  c3 : cs[3]? = some (.bool H.each)
  c4 : cs[4]? = some (.int .i64 H.unit)
  c5 : cs[5]? = some (.map (some mb))
  op : ∀ d, d < 101 → ∃ n b, cs[6 + d * 2]? = some (.int .i64 n) ∧ (-9223372036854775808 ≤ n ∧ n ≤ 9223372036854775807) ∧ cs[6 + d * 2 + 1]? = some (.bool b)
  c208 : cs[208]? = some (.int .i64 wh)
  c209 : cs[209]? = some lv
section
variable {p mb : Nat} {H : How} {wh : Int} {lv : Value} {cs : Array Value}
theorem set_ne {i j : Nat} {v : Value} (h : i ≠ j) : (cs.setIfInBounds i v)[j]? = cs[j]? := Array.getElem?_setIfInBounds_ne h
theorem set_eq {i : Nat} {v : Value} (h : i < cs.size) : (cs.setIfInBounds i v)[i]? = some v := Array.getElem?_setIfInBounds_self_of_lt h
theorem CC.blocks (h : CC p mb H wh lv cs) {d : Nat} (hd : d < 101) {n : Int} (hn : -9223372036854775808 ≤ n ∧ n ≤ 9223372036854775807) : CC p mb H wh lv (cs.setIfInBounds (6 + d * 2) (.int .i64 n)) := by
  have hs := h.size
  refine ⟨by rw [Array.size_setIfInBounds]; exact hs, (set_ne (by omega)).trans h.c0, (set_ne (by omega)).trans h.c1, (set_ne (by omega)).trans h.c2, (set_ne (by omega)).trans h.c3, (set_ne (by omega)).trans h.c4, (set_ne (by omega)).trans h.c5, fun e he => ?_, (set_ne (by omega)).trans h.c208, (set_ne (by omega)).trans h.c209⟩
  obtain ⟨m, b, h1, h2, h3⟩ := h.op e he
  rw [set_ne (i := 6 + d * 2) (j := 6 + e * 2 + 1) (by omega)]
  by_cases q : d = e
  · subst q
    exact ⟨n, b, set_eq (by omega), hn, h3⟩
  · exact ⟨m, b, (set_ne (by omega)).trans h1, h2, h3⟩
theorem CC.again (h : CC p mb H wh lv cs) {d : Nat} (hd : d < 101) (x : Bool) : CC p mb H wh lv (cs.setIfInBounds (6 + d * 2 + 1) (.bool x)) := by
  have hs := h.size
  refine ⟨by rw [Array.size_setIfInBounds]; exact hs, (set_ne (by omega)).trans h.c0, (set_ne (by omega)).trans h.c1, (set_ne (by omega)).trans h.c2, (set_ne (by omega)).trans h.c3, (set_ne (by omega)).trans h.c4, (set_ne (by omega)).trans h.c5, fun e he => ?_, (set_ne (by omega)).trans h.c208, (set_ne (by omega)).trans h.c209⟩
  obtain ⟨m, b, h1, h2, h3⟩ := h.op e he
  rw [set_ne (i := 6 + d * 2 + 1) (j := 6 + e * 2) (by omega)]
  by_cases q : d = e
  · subst q
    exact ⟨m, x, h1, h2, set_eq (by omega)⟩
  · exact ⟨m, b, h1, h2, (set_ne (by omega)).trans h3⟩
theorem CC.whole (h : CC p mb H wh lv cs) (n : Int) : CC p mb H n lv (cs.setIfInBounds 208 (.int .i64 n)) := by
  have hs := h.size
  refine ⟨by rw [Array.size_setIfInBounds]; exact hs, (set_ne (by omega)).trans h.c0, (set_ne (by omega)).trans h.c1, (set_ne (by omega)).trans h.c2, (set_ne (by omega)).trans h.c3, (set_ne (by omega)).trans h.c4, (set_ne (by omega)).trans h.c5, fun e he => ?_, set_eq (by omega), (set_ne (by omega)).trans h.c209⟩
  obtain ⟨m, b, h1, h2, h3⟩ := h.op e he
  exact ⟨m, b, (set_ne (by omega)).trans h1, h2, (set_ne (by omega)).trans h3⟩
theorem CC.lines (h : CC p mb H wh lv cs) (v : Value) : CC p mb H wh v (cs.setIfInBounds 209 v) := by
  have hs := h.size
  refine ⟨by rw [Array.size_setIfInBounds]; exact hs, (set_ne (by omega)).trans h.c0, (set_ne (by omega)).trans h.c1, (set_ne (by omega)).trans h.c2, (set_ne (by omega)).trans h.c3, (set_ne (by omega)).trans h.c4, (set_ne (by omega)).trans h.c5, fun e he => ?_, (set_ne (by omega)).trans h.c208, set_eq (by omega)⟩
  obtain ⟨m, b, h1, h2, h3⟩ := h.op e he
  exact ⟨m, b, (set_ne (by omega)).trans h1, h2, (set_ne (by omega)).trans h3⟩
end
/-! ### what else lies there -/
/-- All rows but the sum's own are as they were. -/
def Kt (w w' : World) : Prop := w.heap.size ≤ w'.heap.size ∧ ∀ (k : Nat) cur t fr, w.heap[k]? = some (.cells cur t fr) → t ≠ 78 → t ≠ 101 → w'.heap[k]? = some (.cells cur t fr)
theorem Kt.refl (w : World) : Kt w w := ⟨Nat.le_refl _, fun _ _ _ _ h _ _ => h⟩
theorem Kt.trans {a b c : World} (h : Kt a b) (h2 : Kt b c) : Kt a c := ⟨Nat.le_trans h.1 h2.1, fun k cur t fr hk h3 h4 => h2.2 k cur t fr (h.2 k cur t fr hk h3 h4) h3 h4⟩
theorem Kt.of_below {w w' : World} (h : Below w.heap.size w w') : Kt w w' := ⟨h.size, fun k cur t fr hk _ _ => (h.block k (heap_lt hk)).trans hk⟩
theorem Kt.owns {w w' : World} (h : Kt w w') {base : Nat} {e : TypeId} {size n : Nat} {v : Value} {xs : List Value} (ho : w.ownsRow base e size v n xs) (h1 : e ≠ 78) (h2 : e ≠ 101) : w'.ownsRow base e size v n xs :=
  owns_at ho fun k hk => by
    obtain ⟨cur, hc⟩ := owns_type ho hk
    rw [h.2 k _ _ _ hc h1 h2, hc]

/-! ### a sum -/
structure Cnt (W0 : World) (cb mb p : Nat) (H : How) (K : List Value) (wh : Int) (ln : Nat) (lv : Value) (w : World) : Prop where
  head : ∃ cs, w.heap[cb]? = some (.cells cs 78 (0, 0)) ∧ CC p mb H wh lv cs
  met : MetAt Tryz.prog 127 (unitElem (H := Unit)) (.agg []) w mb K
  lines : ∃ xs, w.ownsRow W0.heap.size 101 3 lv ln xs
  low : Below W0.heap.size W0 w
  ge : W0.heap.size ≤ cb
  gm : W0.heap.size ≤ mb
section
variable {W0 : World} {cb mb p : Nat} {H : How} {K : List Value} {wh : Int} {ln : Nat} {lv : Value} {w w' w1 : World}
theorem Cnt.lt (h : Cnt W0 cb mb p H K wh ln lv w) : cb < w.heap.size := by
  obtain ⟨cs, h1, _⟩ := h.head
  exact heap_lt h1
theorem met_map {S : List Value} (h : MetAt Tryz.prog 127 (unitElem (H := Unit)) (.agg []) w mb S) : ∃ es clock, w.heap[mb]? = some (.map es clock) := by
  obtain ⟨ls, _, es, clock, hh, _⟩ := h
  exact ⟨es, clock, hh⟩
theorem Cnt.ne (h : Cnt W0 cb mb p H K wh ln lv w) : cb ≠ mb := by
  rintro rfl
  obtain ⟨cs, h1, _⟩ := h.head
  obtain ⟨es, clock, h2⟩ := met_map h.met
  rw [h1] at h2
  cases h2
theorem Cnt.l_ne (h : Cnt W0 cb mb p H K wh ln lv w) {k : Nat} (hk : lv.ownBlock = some k) : k ≠ cb ∧ k ≠ mb := by
  obtain ⟨xs, hx⟩ := h.lines
  obtain ⟨cur, hc⟩ := owns_type hx hk
  constructor
  · rintro rfl
    obtain ⟨cs, h1, _⟩ := h.head
    rw [h1] at hc
    simp at hc
  · rintro rfl
    obtain ⟨es, clock, h2⟩ := met_map h.met
    rw [h2] at hc
    cases hc
theorem Cnt.keep (h : Cnt W0 cb mb p H K wh ln lv w) (hb : Below w.heap.size w w') : Cnt W0 cb mb p H K wh ln lv w' := by
  obtain ⟨cs, h1, h2⟩ := h.head
  obtain ⟨xs, hx⟩ := h.lines
  exact ⟨⟨cs, (hb.block _ h.lt).trans h1, h2⟩, h.met.at_ (hb.block _ h.met.lt), ⟨xs, owns_to hx hb⟩, h.low.trans (hb.mono h.low.size), h.ge, h.gm⟩
/-- The count's cells, wherever its block is as it was. -/
theorem Cnt.cells (h : Cnt W0 cb mb p H K wh ln lv w) {W : World} (hW : W.heap[cb]? = w.heap[cb]?) :
    W.cell? ⟨cb, 0, none⟩ = some (.pointer (some ⟨p, 0, none⟩)) ∧ W.cell? ⟨cb, 1, none⟩ = some (.bool H.all) ∧ W.cell? ⟨cb, 2, none⟩ = some (.int .i64 H.most) ∧ W.cell? ⟨cb, 3, none⟩ = some (.bool H.each) ∧ W.cell? ⟨cb, 4, none⟩ = some (.int .i64 H.unit) ∧
    W.cell? ⟨cb, 5, none⟩ = some (.map (some mb)) ∧ W.cell? ⟨cb, 208, none⟩ = some (.int .i64 wh) ∧ W.cell? ⟨cb, 209, none⟩ = some lv ∧ (∀ j, W.frozen? ⟨cb, j, none⟩ = false) ∧
    ∀ d, d < 101 → ∃ n b, W.cell? ⟨cb, 6 + d * 2, none⟩ = some (.int .i64 n) ∧ (-9223372036854775808 ≤ n ∧ n ≤ 9223372036854775807) ∧ W.cell? ⟨cb, 6 + d * 2 + 1, none⟩ = some (.bool b) := by
  obtain ⟨cs, h1, h2⟩ := h.head
  have q := hW.trans h1
  refine ⟨?_, ?_, ?_, ?_, ?_, ?_, ?_, ?_, fun j => frozen_of_row _ _ _ _ _ q, fun d hd => ?_⟩
  · rw [cell_of_row _ _ _ _ _ _ q]; exact h2.c0
  · rw [cell_of_row _ _ _ _ _ _ q]; exact h2.c1
  · rw [cell_of_row _ _ _ _ _ _ q]; exact h2.c2
  · rw [cell_of_row _ _ _ _ _ _ q]; exact h2.c3
  · rw [cell_of_row _ _ _ _ _ _ q]; exact h2.c4
  · rw [cell_of_row _ _ _ _ _ _ q]; exact h2.c5
  · rw [cell_of_row _ _ _ _ _ _ q]; exact h2.c208
  · rw [cell_of_row _ _ _ _ _ _ q]; exact h2.c209
  · rw [cell_of_row _ _ _ _ _ _ q, cell_of_row _ _ _ _ _ _ q]; exact h2.op d hd
theorem Cnt.there (h : Cnt W0 cb mb p H K wh ln lv w) {d : Nat} (hd : d < 101) : w.there cb (6 + d * 2) 2 := by
  obtain ⟨_, _, _, _, _, _, _, _, hf, ho⟩ := h.cells rfl
  obtain ⟨n, b, h1, _, h3⟩ := ho d hd
  intro j hj
  have : j = 0 ∨ j = 1 := by omega
  rcases this with rfl | rfl
  · exact ⟨by rw [Nat.add_zero, h1]; rfl, hf _⟩
  · exact ⟨by rw [h3]; rfl, hf _⟩
/-- A store in the count's block. -/
theorem Cnt.put (h : Cnt W0 cb mb p H K wh ln lv w) {j : Nat} {v : Value} {wh' : Int} (hc : ∀ cs, CC p mb H wh lv cs → CC p mb H wh' lv (cs.setIfInBounds j v)) : Cnt W0 cb mb p H K wh' ln lv (w.setCell ⟨cb, j, none⟩ v) ∧ Kt w (w.setCell ⟨cb, j, none⟩ v) := by
  obtain ⟨cs, h1, h2⟩ := h.head
  obtain ⟨xs, hx⟩ := h.lines
  have hs := heap_setCell_same w cb j cs _ v h1
  refine ⟨⟨⟨_, hs, hc cs h2⟩, h.met.at_ (heap_setCell_other _ _ _ _ (fun e => h.ne e.symm)), ⟨xs, owns_at hx fun k hk => heap_setCell_other _ _ _ _ (h.l_ne hk).1⟩, h.low.setCell h.ge _, h.ge, h.gm⟩, by simp [World.setCell], fun k cur t fr hk h3 h4 => ?_⟩
  by_cases q : k = cb
  · subst q
    rw [h1] at hk
    simp only [Option.some.injEq, Obj.cells.injEq] at hk
    exact absurd hk.2.1.symm h3
  · rw [heap_setCell_other _ _ _ _ q]; exact hk
theorem Cnt.blocks (h : Cnt W0 cb mb p H K wh ln lv w) {d : Nat} (hd : d < 101) {n : Int} (hn : -9223372036854775808 ≤ n ∧ n ≤ 9223372036854775807) : Cnt W0 cb mb p H K wh ln lv (w.setCell ⟨cb, 6 + d * 2, none⟩ (.int .i64 n)) ∧ Kt w (w.setCell ⟨cb, 6 + d * 2, none⟩ (.int .i64 n)) :=
  h.put fun cs hc => hc.blocks hd hn
theorem Cnt.again (h : Cnt W0 cb mb p H K wh ln lv w) {d : Nat} (hd : d < 101) (x : Bool) : Cnt W0 cb mb p H K wh ln lv (w.setCell ⟨cb, 6 + d * 2 + 1, none⟩ (.bool x)) ∧ Kt w (w.setCell ⟨cb, 6 + d * 2 + 1, none⟩ (.bool x)) :=
  h.put fun cs hc => hc.again hd x
theorem Cnt.whole (h : Cnt W0 cb mb p H K wh ln lv w) (n : Int) : Cnt W0 cb mb p H K n ln lv (w.setCell ⟨cb, 208, none⟩ (.int .i64 n)) ∧ Kt w (w.setCell ⟨cb, 208, none⟩ (.int .i64 n)) :=
  h.put fun cs hc => hc.whole n
/-- A node met at some depth: the row of two cells. -/
theorem Cnt.open_ (h : Cnt W0 cb mb p H K wh ln lv w) {d : Nat} (hd : d < 101) (x : Bool) : Cnt W0 cb mb p H K wh ln lv (w.setCells cb (6 + d * 2) [.int .i64 0, .bool x]) ∧ Kt w (w.setCells cb (6 + d * 2) [.int .i64 0, .bool x]) := by
  obtain ⟨h1, k1⟩ := h.blocks hd (n := 0) ⟨by decide, by decide⟩
  obtain ⟨h2, k2⟩ := h1.again hd x
  exact ⟨h2, k1.trans k2⟩
/-- Behind an append of a line, and the store of the new slice. -/
theorem Cnt.line (h : Cnt W0 cb mb p H K wh ln lv w) {m : Nat} {v1 : Value} {xs : List Value} (ho : w1.ownsRow W0.heap.size 101 3 v1 (ln + m) xs) (hg : w.grownBy w1 lv.ownBlock) :
    Cnt W0 cb mb p H K wh (ln + m) v1 (w1.setCell ⟨cb, 209, none⟩ v1) ∧ Kt w (w1.setCell ⟨cb, 209, none⟩ v1) := by
  obtain ⟨cs, h1, h2⟩ := h.head
  obtain ⟨ys, hy⟩ := h.lines
  obtain ⟨es, clock, hm⟩ := met_map h.met
  have hcb : w1.heap[cb]? = some (.cells cs 78 (0, 0)) := (hg.block cb h.lt (fun e => (h.l_ne e.symm).1 rfl)).trans h1
  have hmb : w1.heap[mb]? = w.heap[mb]? := hg.block mb h.met.lt (fun e => (h.l_ne e.symm).2 rfl)
  have hs := heap_setCell_same w1 cb 209 cs _ v1 hcb
  have hne : ∀ k, v1.ownBlock = some k → k ≠ cb := fun k hk => by
    rintro rfl
    obtain ⟨cur, hc⟩ := owns_type ho hk
    rw [hcb] at hc
    simp at hc
  refine ⟨⟨⟨_, hs, h2.lines v1⟩, h.met.at_ ((heap_setCell_other _ _ _ _ (fun e => h.ne e.symm)).trans hmb), ⟨xs, owns_at ho fun k hk => heap_setCell_other _ _ _ _ (hne k hk)⟩, (h.low.grown hg h.low.size (fun k e => (hy.lt k e).1)).setCell h.ge _, h.ge, h.gm⟩, ?_, fun k cur t fr hk h3 h4 => ?_⟩
  · have e : (w1.setCell ⟨cb, 209, none⟩ v1).heap.size = w1.heap.size := by simp [World.setCell]
    rw [e]; exact hg.size
  · by_cases q : k = cb
    · subst q
      rw [h1] at hk
      simp only [Option.some.injEq, Obj.cells.injEq] at hk
      exact absurd hk.2.1.symm h3
    · rw [heap_setCell_other _ _ _ _ q, hg.block k (heap_lt hk) fun e => ?_]
      · exact hk
      · obtain ⟨cur', hc⟩ := owns_type hy e.symm
        rw [hk] at hc
        simp only [Option.some.injEq, Obj.cells.injEq] at hc
        exact h4 hc.2.1
/-- Behind a node's mark. -/
theorem Cnt.mark (h : Cnt W0 cb mb p H K wh ln lv w) {K' : List Value} (hm : MetAt Tryz.prog 127 (unitElem (H := Unit)) (.agg []) w1 mb K') (hg : w.grownBy w1 (some mb)) : Cnt W0 cb mb p H K' wh ln lv w1 ∧ Kt w w1 := by
  obtain ⟨cs, h1, h2⟩ := h.head
  obtain ⟨ys, hy⟩ := h.lines
  obtain ⟨es, clock, hh⟩ := met_map h.met
  refine ⟨⟨⟨cs, (hg.block cb h.lt (fun e => h.ne (Option.some.inj e))).trans h1, h2⟩, hm, ⟨ys, owns_at hy fun k hk => hg.block k (hy.lt k hk).2 fun e => (h.l_ne hk).2 (Option.some.inj e)⟩, h.low.grown hg h.low.size (fun k e => by rw [← Option.some.inj e]; exact h.gm), h.ge, h.gm⟩, hg.size, fun k cur t fr hk h3 h4 => ?_⟩
  rw [hg.block k (heap_lt hk) fun e => ?_]
  · exact hk
  · obtain rfl := Option.some.inj e
    rw [hh] at hk
    cases hk
end
end Go.Proofs.YtpikndeefiediaaGreatDoor.U

namespace Go.Proofs.YtpikndeefiediaaGreatDoor.U
open Go.Proofs.YtpikndeefiediaaGreatDoor.B
open Go.RowKit Go.Maps

def op0 (_ : Unit) : List Value := [.int .i64 0, .bool false]
def zl : List Value := [.pointer none, .bool false, .int .i64 0, .bool false, .int .i64 0, .map none] ++ (cellsC op0 (List.replicate 101 ()) ++ [.int .i64 0, .slice none 0 0])
set_option maxRecDepth 100000 in
theorem zC : (Tryz.zeroCells78).toList = zl := by kernel_rfl
set_option maxRecDepth 100000 in
theorem zS : (Tryz.zeroCells78).size = 210 := by kernel_rfl
set_option maxRecDepth 100000 in
theorem zO : (Tryz.zeroCells78).all (·.oneCell') = true := by kernel_rfl
theorem sizeC : (Tryz.prog.info? 78).map (·.size) = some 210 := by kernel_rfl
theorem z_op {d : Nat} (hd : d < 101) : (Tryz.zeroCells78)[6 + d * 2]? = some (.int .i64 0) ∧ (Tryz.zeroCells78)[6 + d * 2 + 1]? = some (.bool false) := by
  have hl : (cellsC op0 (List.replicate 101 ())).length = 202 := by rw [cellsC_len (k := 2) (fun _ => rfl), List.length_replicate]
  have hu : (List.replicate 101 ())[d]? = some () := by rw [List.getElem?_replicate, if_pos hd]
  have key : ∀ j v, j < 2 → (op0 ())[j]? = some v → (Tryz.zeroCells78)[6 + d * 2 + j]? = some v := fun j v hj hv => by
    rw [← Array.getElem?_toList, zC, zl, List.getElem?_append_right (by simp; omega)]
    rw [show 6 + d * 2 + j - [Value.pointer none, .bool false, .int .i64 0, .bool false, .int .i64 0, .map none].length = d * 2 + j by simp; omega]
    rw [List.getElem?_append_left (by rw [hl]; omega), cellsC_get (k := 2) (fun _ => rfl) _ _ _ _ hu hj]
    exact hv
  exact ⟨key 0 _ (by decide) rfl, key 1 _ (by decide) rfl⟩
theorem z_last (j : Nat) (v : Value) (hj : j < 2) (h : ([.int .i64 0, .slice none 0 0] : List Value)[j]? = some v) : (Tryz.zeroCells78)[208 + j]? = some v := by
  have hl : (cellsC op0 (List.replicate 101 ())).length = 202 := by rw [cellsC_len (k := 2) (fun _ => rfl), List.length_replicate]
  rw [← Array.getElem?_toList, zC, zl, List.getElem?_append_right (by simp; omega)]
  rw [show 208 + j - [Value.pointer none, .bool false, .int .i64 0, .bool false, .int .i64 0, .map none].length = 202 + j by simp; omega]
  rw [List.getElem?_append_right (by rw [hl]; omega), hl, Nat.add_sub_cancel_left]
  exact h
/-- The cells of a sum begun. -/
def cs0 (Z : Array Value) (p mb : Nat) (H : How) : Array Value := (((((Z.setIfInBounds 0 (.pointer (some ⟨p, 0, none⟩))).setIfInBounds 1 (.bool H.all)).setIfInBounds 2 (.int .i64 H.most)).setIfInBounds 3 (.bool H.each)).setIfInBounds 4 (.int .i64 H.unit)).setIfInBounds 5 (.map (some mb))
theorem all_set {cs : Array Value} {f : Value → Bool} {i : Nat} {v : Value} (h : cs.all f = true) (hv : f v = true) : (cs.setIfInBounds i v).all f = true := by
  rw [Array.all_eq_true'] at h ⊢
  intro x hx
  obtain ⟨j, hj⟩ := Array.getElem?_of_mem hx
  rw [Array.getElem?_setIfInBounds] at hj
  split at hj
  · split at hj
    · obtain rfl := Option.some.inj hj; exact hv
    · cases hj
  · exact h x (Array.mem_of_getElem? hj)
theorem cs0_one (p mb : Nat) (H : How) : (cs0 Tryz.zeroCells78 p mb H).all (·.oneCell') = true := all_set (all_set (all_set (all_set (all_set (all_set zO rfl) rfl) rfl) rfl) rfl) rfl
theorem cs0_size (p mb : Nat) (H : How) : (cs0 Tryz.zeroCells78 p mb H).size = 210 := by unfold cs0; simp
theorem cs0_at (p mb : Nat) (H : How) {j : Nat} (hj : 6 ≤ j) : (cs0 Tryz.zeroCells78 p mb H)[j]? = (Tryz.zeroCells78)[j]? := by
  unfold cs0
  rw [set_ne (by omega), set_ne (by omega), set_ne (by omega), set_ne (by omega), set_ne (by omega), set_ne (by omega)]
theorem cc0 (p mb : Nat) (H : How) : CC p mb H 0 (.slice none 0 0) (cs0 Tryz.zeroCells78 p mb H) := by
  have s : ∀ (cs : Array Value) i v, (cs.setIfInBounds i v).size = cs.size := fun cs i v => Array.size_setIfInBounds
  refine ⟨cs0_size p mb H, ?_, ?_, ?_, ?_, ?_, ?_, fun d hd => ?_, ?_, ?_⟩
  · unfold cs0; rw [set_ne (by omega), set_ne (by omega), set_ne (by omega), set_ne (by omega), set_ne (by omega), set_eq (by rw [zS]; omega)]
  · unfold cs0; rw [set_ne (by omega), set_ne (by omega), set_ne (by omega), set_ne (by omega), set_eq (by rw [s, zS]; omega)]
  · unfold cs0; rw [set_ne (by omega), set_ne (by omega), set_ne (by omega), set_eq (by rw [s, s, zS]; omega)]
  · unfold cs0; rw [set_ne (by omega), set_ne (by omega), set_eq (by rw [s, s, s, zS]; omega)]
  · unfold cs0; rw [set_ne (by omega), set_eq (by rw [s, s, s, s, zS]; omega)]
  · unfold cs0; rw [set_eq (by rw [s, s, s, s, s, zS]; omega)]
  · obtain ⟨h1, h2⟩ := z_op hd
    exact ⟨0, false, (cs0_at p mb H (by omega)).trans h1, ⟨by decide, by decide⟩, (cs0_at p mb H (by omega)).trans h2⟩
  · exact (cs0_at p mb H (by omega)).trans (z_last 0 _ (by decide) rfl)
  · exact (cs0_at p mb H (by omega)).trans (z_last 1 _ (by decide) rfl)
/-- A sum begun, behind its making. -/
theorem cnt0 (W0 w1 : World) (p : Nat) (H : How) (hb : Below W0.heap.size W0 w1) : Cnt W0 (w1.alloc (.map #[] 0)).heap.size w1.heap.size p H [] 0 0 (.slice none 0 0) ((w1.alloc (.map #[] 0)).alloc (.cells (cs0 Tryz.zeroCells78 p w1.heap.size H) 78)) := by
  have h1 := hb.alloc hb.size (.map #[] 0)
  refine ⟨⟨_, heap_alloc_new _ _, cc0 p _ H⟩, (MetAt.made w1 _ _ _ _).at_ (heap_alloc_old _ _ (by simp)), ⟨[], ?_⟩, h1.alloc h1.size _, h1.size, hb.size⟩
  exact ⟨rfl, .inl ⟨rfl, rfl⟩⟩
theorem begin_at (w : World) (t : TypeId) (c : Array Value) : ((w.alloc (.map #[] 0)).alloc (.cells c t)).heap[w.heap.size + 1]? = some (.cells c t (0, 0)) := by
  have e : (w.alloc (.map #[] 0)).heap.size = w.heap.size + 1 := by simp
  rw [← e]
  exact heap_alloc_new _ _
theorem begin_row (w : World) (t : TypeId) (c c' : Array Value) : ((w.alloc (.map #[] 0)).alloc (.cells c t)).setRow (w.heap.size + 1) c' = (w.alloc (.map #[] 0)).alloc (.cells c' t) := by
  have e : (w.alloc (.map #[] 0)).heap.size = w.heap.size + 1 := by simp
  rw [← e]
  exact World.setRow_alloc_new _ _ _ _
theorem begin_size (w : World) : (w.alloc (.map #[] 0)).heap.size = w.heap.size + 1 := by simp
end Go.Proofs.YtpikndeefiediaaGreatDoor.U
