/-
  What slices.Equal of two rows of entries, alike, slices.EqualFunc and FS.Same return. Conditions: the file systems lie in memory; at most 1000000 nodes, and entries a directory.
-/
import Derived.Test.YtemjlamgnkjejaaVAsk
set_option linter.unusedVariables false
namespace Go.Proofs.Ytemjlamgnkjejaa
open Go.RowKit

def entEq (a b : ByteArray × Int) : Bool := a.1.toList == b.1.toList && a.2 == b.2
def entsEq : List (ByteArray × Int) → List (ByteArray × Int) → Bool
  | [], [] => true
  | x :: r, y :: t => entEq x y && entsEq r t
  | _, _ => false
theorem entsEq_len : ∀ {a b : List (ByteArray × Int)}, entsEq a b = true → a.length = b.length
  | [], [], _ => rfl
  | x :: r, y :: t, h => by
    rw [entsEq, Bool.and_eq_true] at h
    rw [List.length_cons, List.length_cons, entsEq_len h.2]
  | [], y :: t, h => by simp [entsEq] at h
  | x :: r, [], h => by simp [entsEq] at h
theorem entsEq_self : ∀ a : List (ByteArray × Int), entsEq a a = true
  | [] => rfl
  | x :: r => by rw [entsEq, entsEq_self r]; simp [entEq]
theorem entsEq_no : ∀ {a b : List (ByteArray × Int)} {k : Nat} {x y : ByteArray × Int}, a[k]? = some x → b[k]? = some y → entEq x y = false → entsEq a b = false
  | x :: r, y :: t, 0, _, _, h, h', e => by
    simp at h h'
    subst h h'
    rw [entsEq, e]
    rfl
  | x :: r, y :: t, k + 1, _, _, h, h', e => by
    rw [entsEq, entsEq_no (a := r) (b := t) (k := k) (by simpa using h) (by simpa using h') e]
    simp
  | [], _, k, _, _, h, _, _ => by simp at h
  | x :: r, [], k, _, _, _, h, _ => by simp at h
theorem entsEq_all : ∀ {a b : List (ByteArray × Int)}, a.length = b.length → (∀ (k : Nat) (x y : ByteArray × Int), a[k]? = some x → b[k]? = some y → entEq x y = true) → entsEq a b = true
  | [], [], _, _ => rfl
  | x :: r, y :: t, h, e => by
    rw [entsEq, e 0 x y rfl rfl, entsEq_all (by simpa using h) (fun k u v hu hv => e (k + 1) u v (by simpa using hu) (by simpa using hv))]
    rfl
  | [], y :: t, h, _ => by simp at h
  | x :: r, [], h, _ => by simp at h

set_option maxRecDepth 100000 in
theorem run_neq_ent (W : World) (s t : ByteArray) (i j : Int) : (binOp .neq 60 (.agg #[.string s, .int .i64 i]) (.agg #[.string t, .int .i64 j])).run Try.prog W = .ok (.bool (!(entEq (s, i) (t, j)))) W := by
  simp [go_sem, entEq]
  by_cases h1 : s.toList = t.toList <;> by_cases h2 : i = j <;> simp [h1, h2]
theorem drewN_two (w : World) (a b : Nat) : (w.drewN a).drewN b = w.drewN (a + b) := by
  unfold World.drewN
  simp [Nat.add_assoc]
def EqRel (a b : List (ByteArray × Int)) (w : World) (v : Value) (wr : World) : Prop := ∃ k : Nat, k ≤ a.length ∧ v = .int .i64 (k : Int) ∧ Hid (∃ q, wr = w.drewN q) ∧ Hid (∀ j x y, j < k → a[j]? = some x → b[j]? = some y → entEq x y = true)
set_option maxRecDepth 100000 in
set_option maxHeartbeats 4000000 in
theorem equal_any (u v : Value) (a b : List (ByteArray × Int)) (w : World) (Ha : w.ownsRow 0 60 2 u a.length (entCells a)) (Hb : w.ownsRow 0 60 2 v b.length (entCells b)) (ha : a.length ≤ 1000000) (hb : b.length ≤ 1000000) :
    Calls Try.prog 64 #[u, v] w fun e w' => e = .returned (.bool (entsEq a b)) ∧ ∃ q, w' = w.drewN q := by
  obtain ⟨oa, ca, rfl⟩ := owns_form Ha
  obtain ⟨ob, cb, rfl⟩ := owns_form Hb
  by_cases hlen : a.length = b.length
  · have d0 : ((a.length : Int) != (b.length : Int)) = false := by rw [hlen]; simp
    have HA := Lib.hid Ha
    have HB := Lib.hid Hb
    have HL := Lib.hid hlen
    clear Ha Hb hlen
    go_enter Try.func64, Try.ntmps64
    go_wp2_with fail
    go_loopw [13] (EqRel a b w) (fun v _ => a.length - (intOf v).toNat)
    case atStart => exact ⟨0, Nat.zero_le _, rfl, Lib.hid ⟨0, rfl⟩, Lib.hid (fun j x y h => by omega)⟩
    case round =>
      obtain ⟨k, hk, rfl, HQ, HE⟩ := hrel
      by_cases hlt : k < a.length
      · have e1 : decide ((k : Int) < (a.length : Int)) = true := decide_eq_true (by omega)
        obtain ⟨x, hx⟩ : ∃ x, a[k]? = some x := ⟨_, List.getElem?_eq_getElem hlt⟩
        obtain ⟨y, hy⟩ : ∃ y, b[k]? = some y := ⟨_, List.getElem?_eq_getElem (by have := HL.out; omega)⟩
        obtain ⟨q, hq⟩ := HQ.out
        subst hq
        obtain ⟨g, cg, e2, _, _⟩ := owns_some HA.out (by omega)
        simp only [Value.slice.injEq] at e2
        obtain ⟨rfl, _, rfl⟩ := e2
        obtain ⟨g', cg', e2, _, _⟩ := owns_some HB.out (by have := HL.out; omega)
        simp only [Value.slice.injEq] at e2
        obtain ⟨rfl, _, rfl⟩ := e2
        have a0 : w.cell? ⟨g, k * 2, none⟩ = some (.string x.1) := owns_cell HA.out (entCells_get a k x hx).1
        have a1 : w.cell? ⟨g, k * 2 + 1, none⟩ = some (.int .i64 x.2) := owns_cell HA.out (entCells_get a k x hx).2
        have b0 : w.cell? ⟨g', k * 2, none⟩ = some (.string y.1) := owns_cell HB.out (entCells_get b k y hy).1
        have b1 : w.cell? ⟨g', k * 2 + 1, none⟩ = some (.int .i64 y.2) := owns_cell HB.out (entCells_get b k y hy).2
        have hkb : k < b.length := by have := HL.out; omega
        have HX := Lib.hid hx
        have HY := Lib.hid hy
        clear hx hy
        have hneq := fun W => run_neq_ent W x.1 y.1 x.2 y.2
        cases hb : entEq x y with
        | true =>
          rw [show entEq (x.1, x.2) (y.1, y.2) = true from hb, Bool.not_true] at hneq
          have R : EqRel a b w (.int .i64 ((k : Int) + 1)) (w.drewN q) := by
            refine ⟨k + 1, by omega, by simp, Lib.hid ⟨q, rfl⟩, Lib.hid (fun j u v hj hu hv => ?_)⟩
            rcases Nat.lt_succ_iff_lt_or_eq.1 hj with h | rfl
            · exact HE.out j u v h hu hv
            · obtain rfl := Option.some.inj (HX.out.symm.trans hu)
              obtain rfl := Option.some.inj (HY.out.symm.trans hv)
              exact hb
          have RR := Lib.hid R
          clear R hb
          go_upto_region 6 with fail
          go_quiet (fail)
          go_wp2_with fail
          go_roundw
          case rel =>
            obtain ⟨k', h1, h2, h3, h4⟩ := RR.out
            exact ⟨k', h1, h2, Lib.hid ⟨q + nq, by first | rfl | rw [drewN_two]⟩, h4⟩
          case measure => simp [intOf]; omega
        | false =>
          rw [show entEq (x.1, x.2) (y.1, y.2) = false from hb, Bool.not_false] at hneq
          have HR := Lib.hid (entsEq_no HX.out HY.out hb)
          clear hb
          go_upto_region 6 with fail
          go_quiet (fail)
          go_wp2_with fail
          go_ret
          exact ⟨ret_bool HR.out.symm, q + nq, by first | rfl | rw [drewN_two]⟩
      · have e1 : decide ((k : Int) < (a.length : Int)) = false := decide_eq_false (by omega)
        have HR := Lib.hid (show entsEq a b = true from entsEq_all HL.out (fun j x y hx hy => HE.out j x y (by have := (List.getElem?_eq_some_iff.1 hx).1; omega) hx hy))
        go_wp2_with fail
        go_ret
        exact ⟨ret_bool HR.out.symm, HQ.out⟩
  · have d0 : ((a.length : Int) != (b.length : Int)) = true := by simp; omega
    have HR := Lib.hid (show entsEq a b = false from by
      rw [← Bool.not_eq_true]
      exact fun e => hlen (entsEq_len e))
    clear hlen
    go_enter Try.func64, Try.ntmps64
    go_wp2_with fail
    go_ret
    exact ⟨ret_bool HR.out.symm, 0, rfl⟩

/-- Is all known of two nodes the same? -/
def knownB (n m : Nd) : Bool := n.dev == m.dev && (n.ino == m.ino && (n.kind == m.kind && (n.mode == m.mode && (n.uid == m.uid && (n.gid == m.gid && (n.size == m.size && (n.blocks == m.blocks && (n.links == m.links && (n.t0 == m.t0 && (n.t1 == m.t1 && (n.t2 == m.t2 && n.target.toList == m.target.toList)))))))))))
def alikeB (n m : Nd) : Bool := knownB n m && (n.dead == m.dead && (n.up == m.up && (n.over == m.over && entsEq n.ents m.ents)))
set_option maxRecDepth 100000 in
theorem run_equalIn_arr3 (d : Nat) (W : World) (a b c x y z : Int) : (Op.equalIn (d + 2) 51 (.agg #[.int .i64 a, .int .i64 b, .int .i64 c]) (.agg #[.int .i64 x, .int .i64 y, .int .i64 z])).run Try.prog W = .ok (a == x && (b == y && c == z)) W := by
  have hi : ∀ (W : World) (a b : Int), (Op.equalIn (d + 1) 2 (.int .i64 a) (.int .i64 b)).run Try.prog W = .ok (a == b) W := fun W a b => run_equalIn_int W d 2 .i64 .i64 a b Try.underlying2
  have ha : ∀ W, (isAgg 2).run Try.prog W = .ok false W := fun W => by kernel_rfl
  rw [show d + 2 = (d + 1) + 1 from rfl, Op.equalIn]
  simp only [Sem.run_bind, run_underlying Try.underlying51, Result.andThen_ok]
  simp [go_sem]
  rw [show List.range' 0 3 = [0, 1, 2] from rfl]
  by_cases h1 : a = x <;> by_cases h2 : b = y <;> by_cases h3 : c = z <;> simp [ha, hi, h1, h2, h3]
set_option maxRecDepth 100000 in
set_option maxHeartbeats 4000000 in
theorem run_eql_known (W : World) (n m : Nd) : (binOp .eql 53 (knownV n) (knownV m)).run Try.prog W = .ok (.bool (knownB n m)) W := by
  have h3 := fun W a b c x y z => run_equalIn_arr3 9997 W a b c x y z
  unfold knownV Nd.known knownB
  simp [go_sem, h3]
  repeat' split
  all_goals simp_all

theorem cells_at (n : Nd) (ev : Value) : (n.cells ev)[13]? = some (.bool n.dead) ∧ (n.cells ev)[14]? = some (.int .i64 n.up) ∧ (n.cells ev)[15]? = some (.int .i64 n.over) ∧ (n.cells ev)[16]? = some ev := ⟨rfl, rfl, rfl, rfl⟩
set_option maxRecDepth 100000 in
set_option maxHeartbeats 4000000 in
theorem alike_any (n m : Nd) (u v : Value) (w : World) (Hu : w.ownsRow 0 60 2 u n.ents.length (entCells n.ents)) (Hv : w.ownsRow 0 60 2 v m.ents.length (entCells m.ents)) (hn : n.ents.length ≤ 1000000) (hm : m.ents.length ≤ 1000000) :
    Calls Try.prog 49 #[.agg (n.cells u).toArray, .agg (m.cells v).toArray] w fun e w' => e = .returned (.bool (alikeB n m)) ∧ Below w.heap.size w w' := by
  have HB := Lib.hid (((Below.refl w.heap.size w).alloc (Nat.le_refl _) (.cells (n.cells u).toArray 74)).alloc (by simp) (.cells (m.cells v).toArray 74))
  have HX := Lib.hid ((heap_alloc_new (w.alloc (.cells (n.cells u).toArray 74)) (.cells (m.cells v).toArray 74)))
  have HY := Lib.hid (show ((w.alloc (.cells (n.cells u).toArray 74)).alloc (.cells (m.cells v).toArray 74)).heap[w.heap.size]? = some (.cells (n.cells u).toArray 74 (0, 0)) from by
    have := ((Below.refl (w.alloc (.cells (n.cells u).toArray 74)).heap.size (w.alloc (.cells (n.cells u).toArray 74))).alloc (Nat.le_refl _) (.cells (m.cells v).toArray 74)).block w.heap.size (by simp)
    rw [this]
    exact heap_alloc_new _ _)
  have hz : (w.alloc (.cells (n.cells u).toArray 74)).heap.size = w.heap.size + 1 := by simp
  rw [hz] at HX
  have HE := Lib.hid (fun W (hb : Below w.heap.size w W) => equal_any u v n.ents m.ents W (owns_keep Hu hb) (owns_keep Hv hb) hn hm)
  obtain ⟨n13, n14, n15, n16⟩ := cells_at n u
  obtain ⟨m13, m14, m15, m16⟩ := cells_at m v
  clear Hu Hv hz
  go_enter Try.func49, Try.ntmps49
  go_upto_region 1 with fail
  generalize (w.alloc (.cells (n.cells u).toArray 74)).alloc (.cells (m.cells v).toArray 74) = W at HB HX HY ⊢
  have a1 : W.cell? ⟨w.heap.size, 13, none⟩ = some (.bool n.dead) := by rw [cell_of_row _ _ _ _ _ _ HY.out]; exact n13
  have a2 : W.cell? ⟨w.heap.size, 14, none⟩ = some (.int .i64 n.up) := by rw [cell_of_row _ _ _ _ _ _ HY.out]; exact n14
  have a3 : W.cell? ⟨w.heap.size, 15, none⟩ = some (.int .i64 n.over) := by rw [cell_of_row _ _ _ _ _ _ HY.out]; exact n15
  have a4 : W.cell? ⟨w.heap.size, 16, none⟩ = some u := by rw [cell_of_row _ _ _ _ _ _ HY.out]; exact n16
  have b1 : W.cell? ⟨w.heap.size + 1, 13, none⟩ = some (.bool m.dead) := by rw [cell_of_row _ _ _ _ _ _ HX.out]; exact m13
  have b2 : W.cell? ⟨w.heap.size + 1, 14, none⟩ = some (.int .i64 m.up) := by rw [cell_of_row _ _ _ _ _ _ HX.out]; exact m14
  have b3 : W.cell? ⟨w.heap.size + 1, 15, none⟩ = some (.int .i64 m.over) := by rw [cell_of_row _ _ _ _ _ _ HX.out]; exact m15
  have b4 : W.cell? ⟨w.heap.size + 1, 16, none⟩ = some v := by rw [cell_of_row _ _ _ _ _ _ HX.out]; exact m16
  have HRn := Lib.hid (show W.rangeAt w.heap.size 0 n.known from fun j x hj => by
    rw [cell_of_row _ _ _ _ _ _ HY.out, Nat.zero_add]
    have := (known_at n u hj).1
    simpa using this)
  have HRm := Lib.hid (show W.rangeAt (w.heap.size + 1) 0 m.known from fun j x hj => by
    rw [cell_of_row _ _ _ _ _ _ HX.out, Nat.zero_add]
    have := (known_at m v hj).1
    simpa using this)
  have hk : ∀ W, (binOp .eql 53 (.agg n.known.toArray) (.agg m.known.toArray)).run Try.prog W = .ok (.bool (knownB n m)) W := fun W => run_eql_known W n m
  have HA := Lib.hid (show alikeB n m = (knownB n m && (n.dead == m.dead && (n.up == m.up && (n.over == m.over && entsEq n.ents m.ents)))) from rfl)
  clear n13 n14 n15 n16 m13 m14 m15 m16 HX HY
  cases k1 : knownB n m <;> rw [k1] at hk HA <;> clear k1
  · go_wp2_with (first
      | (refine wpList_load_mid rfl 53 (.tmp 5) rfl w.heap.size 0 rfl n.known _ HRn.out Try.underlying53 rfl sizeKnown ?_)
      | (refine wpList_load_mid rfl 53 (.tmp 7) rfl (w.heap.size + 1) 0 rfl m.known _ HRm.out Try.underlying53 rfl sizeKnown ?_))
    go_ret
    exact ⟨ret_bool (by rw [HA.out]; rfl), HB.out⟩
  · cases k2 : (n.dead == m.dead) <;> rw [k2] at HA
    · go_wp2_with (first
        | (refine wpList_load_mid rfl 53 (.tmp 5) rfl w.heap.size 0 rfl n.known _ HRn.out Try.underlying53 rfl sizeKnown ?_)
        | (refine wpList_load_mid rfl 53 (.tmp 7) rfl (w.heap.size + 1) 0 rfl m.known _ HRm.out Try.underlying53 rfl sizeKnown ?_))
      go_ret
      exact ⟨ret_bool (by rw [HA.out]; rfl), HB.out⟩
    · cases k3 : (n.up == m.up) <;> rw [k3] at HA
      · go_wp2_with (first
          | (refine wpList_load_mid rfl 53 (.tmp 5) rfl w.heap.size 0 rfl n.known _ HRn.out Try.underlying53 rfl sizeKnown ?_)
          | (refine wpList_load_mid rfl 53 (.tmp 7) rfl (w.heap.size + 1) 0 rfl m.known _ HRm.out Try.underlying53 rfl sizeKnown ?_))
        go_ret
        exact ⟨ret_bool (by rw [HA.out]; rfl), HB.out⟩
      · cases k4 : (n.over == m.over) <;> rw [k4] at HA
        · go_wp2_with (first
            | (refine wpList_load_mid rfl 53 (.tmp 5) rfl w.heap.size 0 rfl n.known _ HRn.out Try.underlying53 rfl sizeKnown ?_)
            | (refine wpList_load_mid rfl 53 (.tmp 7) rfl (w.heap.size + 1) 0 rfl m.known _ HRm.out Try.underlying53 rfl sizeKnown ?_))
          go_ret
          exact ⟨ret_bool (by rw [HA.out]; rfl), HB.out⟩
        · simp only [Bool.true_and] at HA
          go_wp2_with (first
            | (refine wpList_load_mid rfl 53 (.tmp 5) rfl w.heap.size 0 rfl n.known _ HRn.out Try.underlying53 rfl sizeKnown ?_)
            | (refine wpList_load_mid rfl 53 (.tmp 7) rfl (w.heap.size + 1) 0 rfl m.known _ HRm.out Try.underlying53 rfl sizeKnown ?_)
            | (go_at_call 64; refine (HE.out _ HB.out).mono ?_; rintro e w2 ⟨rfl, q, hw⟩; subst hw))
          go_ret
          exact ⟨ret_bool HA.out.symm, below_drewN' HB.out⟩
end Go.Proofs.Ytemjlamgnkjejaa
