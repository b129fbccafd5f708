/-
  What few changes make is within bounds that the rows of a list ask.
  Conditions: each fact's own.
-/
import Derived.Test.YtfhagjnlliafiaaGreatDoorKVNames
import Derived.Test.YtfhagjnlliafiaaGreatDoorKIListM
import Derived.Test.YtfhagjnlliafiaaGreatDoorKPut
import Derived.Test.YtfhagjnlliafiaaGreatDoorKHWalkM
import Derived.Deep.AppendLies
import Derived.Deep.MidRow
set_option linter.unusedSimpArgs false
set_option linter.unusedVariables false
set_option maxHeartbeats 8000000
set_option maxRecDepth 100000
namespace Go.Proofs.YtfhagjnlliafiaaGreatDoor.I
def I64 (x : Int) : Prop := -9223372036854775808 ≤ x ∧ x ≤ 9223372036854775807
structure OkN (n : V.Nd) : Prop where
  size : I64 n.size
  blk : I64 n.blocks
  t0 : I64 n.t0
  t1 : I64 n.t1
  t2 : I64 n.t2
  tgt : n.target.size ≤ 5000
def OkM (M : List V.Nd) : Prop := ∀ n ∈ M, OkN n
theorem all_modify {M : List V.Nd} {i : Nat} {f : V.Nd → V.Nd} {P : V.Nd → Prop} (h : ∀ n ∈ M, P n) (h2 : ∀ n, P n → P (f n)) : ∀ n ∈ M.modify i f, P n := by
  intro n hn
  obtain ⟨j, hj⟩ := List.mem_iff_getElem?.1 hn
  rw [List.getElem?_modify] at hj
  cases hm : M[j]? with
  | none => rw [hm] at hj; cases hj
  | some x =>
    rw [hm] at hj
    have hx := h x (List.mem_of_getElem? hm)
    have e : (if i = j then f x else x) = n := Option.some.inj hj
    rw [← e]
    split
    · exact h2 x hx
    · exact hx
theorem ok_mod {M : List V.Nd} {i : Nat} {f : V.Nd → V.Nd} (h : OkM M) (hf : ∀ n, OkN n → OkN (f n)) : OkM (M.modify i f) := all_modify h hf
theorem ok_app {M : List V.Nd} {n : V.Nd} (h : OkM M) (hn : OkN n) : OkM (M ++ [n]) := fun x hx => by
  rcases List.mem_append.1 hx with hx | hx
  · exact h x hx
  · obtain rfl := List.mem_singleton.1 hx; exact hn
theorem ok_added {n : V.Nd} {d : Int} {M : List V.Nd} (h : OkN n) : OkN (V.addedNd n d M) := ⟨h.size, h.blk, h.t0, h.t1, h.t2, h.tgt⟩
theorem ok_dir (m u : Int) : OkN (V.dirNd m u) := ⟨by unfold I64; exact ⟨(by decide : (-9223372036854775808 : Int) ≤ 4096), (by decide : (4096 : Int) ≤ 9223372036854775807)⟩, ⟨(by decide : (-9223372036854775808 : Int) ≤ 8), (by decide : (8 : Int) ≤ 9223372036854775807)⟩, ⟨(by decide : (-9223372036854775808 : Int) ≤ 0), (by decide : (0 : Int) ≤ 9223372036854775807)⟩, ⟨(by decide : (-9223372036854775808 : Int) ≤ 0), (by decide : (0 : Int) ≤ 9223372036854775807)⟩, ⟨(by decide : (-9223372036854775808 : Int) ≤ 0), (by decide : (0 : Int) ≤ 9223372036854775807)⟩, Nat.zero_le _⟩
theorem ok_new : OkM V.newM := fun n hn => by
  obtain rfl : n = V.addedNd (V.dirNd 493 0) 1 [] := by simpa [V.newM] using hn
  exact ok_added (ok_dir _ _)
theorem blkOf_bd {n : Int} (h : 0 ≤ n) (h2 : n ≤ 9223372036854775807) : I64 (V.blkOf n) := by
  unfold I64 V.blkOf
  split <;> omega
theorem file_size {M : List V.Nd} {c : V.Chg} (h : V.wrongM M c = 0) (hk : c.kind = 1) : 0 ≤ c.n := by
  unfold V.wrongM V.refuseE at h
  have hb : V.baseE (V.atM M) c = 0 := by
    split at h
    · cases h
    · exact h
  unfold V.baseE at hb
  rw [if_pos (by omega)] at hb
  unfold V.entryE at hb
  split at hb
  · cases hb
  · repeat' split at hb
    all_goals first | (cases hb; done) | omega
theorem ok_file {m n b : Int} (h : I64 n) (hb : I64 b) : OkN (V.fileNd m n b) := ⟨h, hb, ⟨(by decide : (-9223372036854775808 : Int) ≤ 0), (by decide : (0 : Int) ≤ 9223372036854775807)⟩, ⟨(by decide : (-9223372036854775808 : Int) ≤ 0), (by decide : (0 : Int) ≤ 9223372036854775807)⟩, ⟨(by decide : (-9223372036854775808 : Int) ≤ 0), (by decide : (0 : Int) ≤ 9223372036854775807)⟩, Nat.zero_le _⟩
theorem ok_link {s : ByteArray} (h : s.size ≤ 5000) : OkN (V.linkNd s) := ⟨⟨(show (-9223372036854775808 : Int) ≤ (s.size : Int) by omega), (show (s.size : Int) ≤ 9223372036854775807 by omega)⟩, ⟨(by decide : (-9223372036854775808 : Int) ≤ 0), (by decide : (0 : Int) ≤ 9223372036854775807)⟩, ⟨(by decide : (-9223372036854775808 : Int) ≤ 0), (by decide : (0 : Int) ≤ 9223372036854775807)⟩, ⟨(by decide : (-9223372036854775808 : Int) ≤ 0), (by decide : (0 : Int) ≤ 9223372036854775807)⟩, ⟨(by decide : (-9223372036854775808 : Int) ≤ 0), (by decide : (0 : Int) ≤ 9223372036854775807)⟩, h⟩
theorem ok_built {M : List V.Nd} {i : Nat} {s : ByteArray} {n : V.Nd} {d : Int} (h : OkM M) (hn : OkN n) : OkM (V.builtM M i s n d) :=
  ok_mod (ok_mod (ok_app h (ok_added hn)) fun _ q => ⟨q.size, q.blk, q.t0, q.t1, q.t2, q.tgt⟩) fun _ q => ⟨q.size, q.blk, q.t0, q.t1, q.t2, q.tgt⟩
theorem ok_set {c : V.Chg} {n : V.Nd} (h : I64 c.n) (q : OkN n) : OkN (V.setNd c n) := by
  unfold V.setNd
  repeat' split
  all_goals first
    | exact ⟨q.size, q.blk, q.t0, q.t1, q.t2, q.tgt⟩
    | exact ⟨q.size, q.blk, h, q.t1, q.t2, q.tgt⟩
    | exact ⟨q.size, q.blk, q.t0, h, q.t2, q.tgt⟩
    | exact ⟨q.size, q.blk, q.t0, q.t1, h, q.tgt⟩
theorem ok_do {M : List V.Nd} {c : V.Chg} (h : OkM M) (hn : I64 c.n) (ht : c.text.size ≤ 5000) : OkM (V.doM M c) := by
  unfold V.doM
  split
  · rename_i hw
    unfold V.carryM
    split
    · exact ok_built h (ok_dir _ _)
    · split
      · rename_i hk
        exact ok_built h (ok_file hn (blkOf_bd (file_size hw hk) hn.2))
      · split
        · exact ok_mod (ok_mod h fun _ q => ⟨q.size, q.blk, q.t0, q.t1, q.t2, q.tgt⟩) fun _ q => ⟨q.size, q.blk, q.t0, q.t1, q.t2, q.tgt⟩
        · split
          · exact ok_built h (ok_link ht)
          · split
            · exact ok_mod (ok_app h (ok_added (ok_dir _ _))) fun _ q => ⟨q.size, q.blk, q.t0, q.t1, q.t2, q.tgt⟩
            · exact ok_mod h fun n q => ok_set hn q
  · exact h
def OvM (M : List V.Nd) : Prop := ∀ n ∈ M, 0 ≤ n.over ∧ n.over < (M.length : Int)
theorem ov_more {M : List V.Nd} {n : V.Nd} (h : OvM M) (hn : n.over = (M.length : Int)) : OvM (M ++ [n]) := fun x hx => by
  rw [List.length_append]
  rcases List.mem_append.1 hx with hx | hx
  · have := h x hx
    simp
    omega
  · obtain rfl := List.mem_singleton.1 hx
    simp
    omega
theorem ov_mod {M : List V.Nd} {i : Nat} {f : V.Nd → V.Nd} (h : OvM M) (hf : ∀ n : V.Nd, 0 ≤ n.over ∧ n.over < (M.length : Int) → 0 ≤ (f n).over ∧ (f n).over < (M.length : Int)) : OvM (M.modify i f) := fun x hx => by
  rw [List.length_modify]
  exact all_modify (P := fun n => 0 ≤ n.over ∧ n.over < (M.length : Int)) h hf x hx
theorem ov_built {M : List V.Nd} {i : Nat} {s : ByteArray} {n : V.Nd} {d : Int} (h : OvM M) : OvM (V.builtM M i s n d) :=
  ov_mod (ov_mod (ov_more h rfl) fun _ q => q) fun _ q => q
theorem ov_do {M : List V.Nd} {c : V.Chg} (h : OvM M) : OvM (V.doM M c) := by
  unfold V.doM
  split
  · unfold V.carryM
    split
    · exact ov_built h
    · split
      · exact ov_built h
      · split
        · exact ov_mod (ov_mod h fun _ q => q) fun _ q => by rw [List.length_modify] at q ⊢; exact q
        · split
          · exact ov_built h
          · split
            · refine ov_mod (ov_more h rfl) fun n _ => ?_
              show 0 ≤ (M.length : Int) ∧ (M.length : Int) < _
              rw [List.length_append]
              simp
              omega
            · refine ov_mod h fun n q => ?_
              unfold V.setNd
              repeat' split
              all_goals exact q
  · exact h
theorem ov_new : OvM V.newM := fun n hn => by
  obtain rfl : n = V.addedNd (V.dirNd 493 0) 1 [] := by simpa [V.newM] using hn
  exact ⟨(by decide : (0 : Int) ≤ 0), (by decide : (0 : Int) < 1)⟩
structure GoodI (M : List V.Nd) : Prop where
  pos : 0 < M.length
  few : M.length ≤ 300
  ov : OvM M
  ok : OkM M
structure OkV (n : P.Nv) : Prop where
  size : I64 n.size
  blk : I64 n.blocks
  ta : I64 n.ta
  tb : I64 n.tb
  tc : I64 n.tc
theorem GoodI.val {M : List V.Nd} (h : GoodI M) (i : Int) : OkV (V.nvAt M i) := by
  unfold V.nvAt
  split
  · exact ⟨⟨(by decide : (-9223372036854775808 : Int) ≤ 0), (by decide : (0 : Int) ≤ 9223372036854775807)⟩, ⟨(by decide : (-9223372036854775808 : Int) ≤ 0), (by decide : (0 : Int) ≤ 9223372036854775807)⟩, ⟨(by decide : (-9223372036854775808 : Int) ≤ 0), (by decide : (0 : Int) ≤ 9223372036854775807)⟩, ⟨(by decide : (-9223372036854775808 : Int) ≤ 0), (by decide : (0 : Int) ≤ 9223372036854775807)⟩, ⟨(by decide : (-9223372036854775808 : Int) ≤ 0), (by decide : (0 : Int) ≤ 9223372036854775807)⟩⟩
  · rename_i n hn
    obtain ⟨k, _, hk⟩ := V.atM_some hn
    have q := h.ok n (List.mem_of_getElem? hk)
    exact ⟨q.size, q.blk, q.t0, q.t1, q.t2⟩
theorem clk_bd {n : P.Nv} (h : OkV n) (c : Int) : I64 (clkI n c) := by
  unfold clkI
  split
  · exact h.ta
  · split
    · exact h.tc
    · exact h.tb
theorem GoodI.text {M : List V.Nd} (h : GoodI M) (i : Int) : (V.linkT M i).size ≤ 5000 := by
  unfold V.linkT
  split
  · exact Nat.zero_le _
  · rename_i n hn
    obtain ⟨k, _, hk⟩ := V.atM_some hn
    have q := h.ok n (List.mem_of_getElem? hk)
    repeat' split
    · exact Nat.zero_le _
    · exact q.tgt
    · exact Nat.zero_le _
theorem over_er {M : List V.Nd} (R : OvM M) (i : Int) : V.nodeEr M (V.overI M i) = V.nodeEr M i := by
  cases ha : V.atM M i with
  | none =>
    have e : V.overI M i = i := by unfold V.overI; rw [ha]
    rw [e]
  | some n =>
    have e : V.overI M i = n.over := by unfold V.overI; rw [ha]
    have e2 : V.nodeEr M i = 0 := by unfold V.nodeEr; rw [ha]
    obtain ⟨k, hk, hn⟩ := V.atM_some ha
    have hkl := (List.getElem?_eq_some_iff.1 hn).1
    have hv : 0 ≤ n.over ∧ n.over < (M.length : Int) := R n (List.mem_of_getElem? hn)
    have hat : ∃ m, V.atM M n.over = some m := by
      unfold V.atM
      rw [if_pos hv]
      exact ⟨_, List.getElem?_eq_getElem (show n.over.toNat < M.length by omega)⟩
    obtain ⟨m, hm⟩ := hat
    rw [e, e2]
    unfold V.nodeEr
    rw [hm]
theorem there_iff {M : List V.Nd} (i : Int) : V.nodeEr M i = 0 ↔ 0 ≤ i ∧ i < (M.length : Int) := by
  unfold V.nodeEr V.atM
  by_cases h : 0 ≤ i ∧ i < (M.length : Int)
  · rw [if_pos h, List.getElem?_eq_getElem (show i.toNat < M.length by omega)]
    exact ⟨fun _ => h, fun _ => rfl⟩
  · rw [if_neg h]
    exact ⟨fun q => absurd q (by decide), fun q => absurd q h⟩
end Go.Proofs.YtfhagjnlliafiaaGreatDoor.I
namespace Go.Proofs.YtfhagjnlliafiaaGreatDoor.I
open Go.Proofs.YtfhagjnlliafiaaGreatDoor.B
open Go.RowKit
structure Hw where
  form : Int
  most : Int
  order : Int
  rev : Bool
  dirs : Bool
  clock : Int
  quote : Int
  mark : Bool
  inode : Bool
  blocks : Bool
  style : Int
  own : ByteArray
  now : Int
  offset : Int
def hwL (h : Hw) : List Value := [.int .i64 h.form, .int .i64 h.most, .int .i64 h.order, .bool h.rev, .bool h.dirs, .int .i64 h.clock, .int .i64 h.quote, .bool h.mark, .bool h.inode, .bool h.blocks, .int .i64 h.style, .string h.own, .int .i64 h.now, .int .i64 h.offset]
def hwV (h : Hw) : Value := .agg #[.int .i64 h.form, .int .i64 h.most, .int .i64 h.order, .bool h.rev, .bool h.dirs, .int .i64 h.clock, .int .i64 h.quote, .bool h.mark, .bool h.inode, .bool h.blocks, .int .i64 h.style, .string h.own, .int .i64 h.now, .int .i64 h.offset]
def itL (s : ByteArray) (k i : Int) (n : P.Nv) : List Value := [.string s, .int .i64 k, .int .i64 i, .int .i64 n.dev, .int .i64 n.ino, .int .i64 n.kind, .int .i64 n.mode, .int .i64 n.uid, .int .i64 n.gid, .int .i64 n.size, .int .i64 n.blocks, .int .i64 n.links, .int .i64 n.ta, .int .i64 n.tb, .int .i64 n.tc, .string n.target]
def itV (s : ByteArray) (k i : Int) (n : P.Nv) : Value := .agg #[.string s, .int .i64 k, .int .i64 i, .int .i64 n.dev, .int .i64 n.ino, .int .i64 n.kind, .int .i64 n.mode, .int .i64 n.uid, .int .i64 n.gid, .int .i64 n.size, .int .i64 n.blocks, .int .i64 n.links, .int .i64 n.ta, .int .i64 n.tb, .int .i64 n.tc, .string n.target]
def itC (M : List V.Nd) (e : En) : List Value := itL e.1 e.2 (V.overI M e.2) (V.nvAt M (V.overI M e.2))
theorem itC_len (M : List V.Nd) (e : En) : (itC M e).length = 16 := rfl
theorem itL_one (s : ByteArray) (k i : Int) (n : P.Nv) : ∀ u ∈ itL s k i n, u.oneCell' = true := fun u hu => by
  simp only [itL, List.mem_cons, List.not_mem_nil, or_false] at hu
  rcases hu with rfl | rfl | rfl | rfl | rfl | rfl | rfl | rfl | rfl | rfl | rfl | rfl | rfl | rfl | rfl | rfl <;> rfl
def enC (e : En) : List Value := [.string e.1, .int .i64 e.2]
theorem enC_len (e : En) : (enC e).length = 2 := rfl
theorem enC_one (e : En) : ∀ u ∈ enC e, u.oneCell' = true := fun u hu => by
  simp only [enC, List.mem_cons, List.not_mem_nil, or_false] at hu
  rcases hu with rfl | rfl <;> rfl
theorem enC_ents : ∀ l : List En, cellsC enC l = V.entCells l
  | [] => rfl
  | x :: r => by rw [cellsC, enC_ents r, V.entCells]; rfl
abbrev EntL (w : World) (a : Option Addr) (l : List En) : Prop := RowL 2 enC w a l
theorem infoIt : (Tryz.prog.info? 65).map (fun i => (i.zero, i.size, i.bytes)) = some (some (itV ⟨#[]⟩ 0 0 V.zeroNv), 16, 144) := by kernel_rfl
theorem sizeIt : (Tryz.prog.info? 65).map (·.size) = some 16 := by kernel_rfl
theorem sizeHw : (Tryz.prog.info? 25).map (·.size) = some 14 := by kernel_rfl
theorem sizeEn : (Tryz.prog.info? 46).map (·.size) = some 2 := by kernel_rfl
theorem sizeN : (Tryz.prog.info? 63).map (·.size) = some 13 := by kernel_rfl
theorem range_of {w : World} {b : Nat} {cs : List Value} {t : TypeId} {fr : Nat × Nat} (h : w.heap[b]? = some (.cells cs.toArray t fr)) : w.rangeAt b 0 cs := fun j v hv => by
  rw [cell_of_row _ _ _ _ _ _ h, Nat.zero_add]
  simpa using hv
theorem range_mid {w : World} {b : Nat} {xs cs ys : List Value} {t : TypeId} {fr : Nat × Nat} (h : w.heap[b]? = some (.cells (xs ++ cs ++ ys).toArray t fr)) : w.rangeAt b xs.length cs := fun j v hv => by
  have hj := (List.getElem?_eq_some_iff.1 hv).1
  rw [cell_of_row _ _ _ _ _ _ h]
  show (xs ++ cs ++ ys).toArray[xs.length + j]? = some v
  rw [List.getElem?_toArray, List.getElem?_append_left (by rw [List.length_append]; omega), List.getElem?_append_right (by omega), Nat.add_sub_cancel_left]
  exact hv
theorem below_a2 (w : World) (a b : Obj) : Below w.heap.size w ((w.alloc a).alloc b) := by
  have h1 := (Below.refl w.heap.size w).alloc (Nat.le_refl _) a
  exact h1.alloc h1.size b
theorem below_a3 (w : World) (a b c : Obj) : Below w.heap.size w (((w.alloc a).alloc b).alloc c) := (below_a2 w a b).alloc (below_a2 w a b).size c
theorem time_any (s : ByteArray) (k i : Int) (n : P.Nv) (h : Hw) (w : World) :
    Calls Tryz.prog 42 #[itV s k i n, hwV h] w fun e w' => e = .returned (.int .i64 (clkI n h.clock)) ∧ Below w.heap.size w w' := by
  unfold itV hwV
  obtain ⟨c, hc⟩ : ∃ c, h.clock = c := ⟨_, rfl⟩
  rw [hc]
  clear hc
  obtain ⟨t, ht⟩ : ∃ t, clkI n c = t := ⟨_, rfl⟩
  rw [ht]
  rcases (show c < 0 ∨ c = 0 ∨ c = 1 ∨ c = 2 ∨ 3 ≤ c by omega) with q | rfl | rfl | rfl | q
  · have HT := Lib.hid (show n.tb = t from by rw [← ht]; unfold clkI; rw [if_neg (by omega), if_neg (by omega)])
    have d1 : decide (c < 0) = true := decide_eq_true q
    clear ht
    go_enter Tryz.func42, Tryz.ntmps42
    go_wp2
    go_ret
    exact ⟨ret_int HT.out, by first | exact below_a3 _ _ _ _ | exact below_a2 _ _ _⟩
  · have HT := Lib.hid (show n.ta = t from by rw [← ht]; rfl)
    clear ht
    go_enter Tryz.func42, Tryz.ntmps42
    go_wp2
    go_ret
    exact ⟨ret_int HT.out, by first | exact below_a3 _ _ _ _ | exact below_a2 _ _ _⟩
  · have HT := Lib.hid (show n.tb = t from by rw [← ht]; rfl)
    clear ht
    go_enter Tryz.func42, Tryz.ntmps42
    go_wp2
    go_ret
    exact ⟨ret_int HT.out, by first | exact below_a3 _ _ _ _ | exact below_a2 _ _ _⟩
  · have HT := Lib.hid (show n.tc = t from by rw [← ht]; rfl)
    clear ht
    go_enter Tryz.func42, Tryz.ntmps42
    go_wp2
    go_ret
    exact ⟨ret_int HT.out, by first | exact below_a3 _ _ _ _ | exact below_a2 _ _ _⟩
  · have HT := Lib.hid (show n.tb = t from by rw [← ht]; unfold clkI; rw [if_neg (by omega), if_neg (by omega)])
    have d1 : decide (c < 0) = false := decide_eq_false (by omega)
    have d2 : decide (3 ≤ c) = true := decide_eq_true q
    clear ht
    go_enter Tryz.func42, Tryz.ntmps42
    go_wp2
    go_ret
    exact ⟨ret_int HT.out, by first | exact below_a3 _ _ _ _ | exact below_a2 _ _ _⟩
def ItemsRel (M : List V.Nd) (l : List En) (w : World) (v5 v13 : Value) (wr : World) : Prop :=
  ∃ k : Nat, k ≤ l.length ∧ v13 = .int .i64 (k : Int) ∧ Hid (wr.ownsRow w.heap.size 65 16 v5 (thereL M (l.take k)).length (cellsC (itC M) (thereL M (l.take k)))) ∧ Hid (Below w.heap.size w wr)
theorem take_one {l : List En} {k : Nat} {e : En} (h : l[k]? = some e) : l.take (k + 1) = l.take k ++ [e] := by
  obtain ⟨hk, he⟩ := List.getElem?_eq_some_iff.1 h
  rw [List.take_succ_eq_append_getElem hk, he]
theorem there_take (M : List V.Nd) (l : List En) (k : Nat) : (thereL M (l.take k)).length ≤ l.length := Nat.le_trans (there_len M _) (by rw [List.length_take]; omega)
theorem items_any {M : List V.Nd} {p : Nat} (l : List En) (a : Option Addr) (cap : Nat) (v0 w : World) (hf : V.Has v0 p M w) (hG : GoodI M) (H : EntL w a l) (hl : l.length ≤ 100000) :
    Calls Tryz.prog 24 #[.pointer (some ⟨p, 0, none⟩), .slice a l.length cap] w fun e w' => ∃ v, e = .returned v ∧ w'.ownsRow w.heap.size 65 16 v (thereL M l).length (cellsC (itC M) (thereL M l)) ∧ Below w.heap.size w w' := by
  obtain ⟨i0, hi0, hz0, hz1, hz2⟩ := info_parts infoIt
  have HE := Lib.hid H
  have HOv := Lib.hid (fun (i : Int) (W : World) (hb : Below w.heap.size w W) => V.has_over i (hf.keep hb) hG.pos)
  have HNd := Lib.hid (show ∀ (i : Int) (W : World), Below w.heap.size w W → Calls Tryz.prog 46 #[.pointer (some ⟨p, 0, none⟩), .int .i64 (V.overI M i)] W fun e w' => e = .returned (.tuple #[P.nodeV (V.nvAt M (V.overI M i)), .int .i64 (V.nodeEr M i)]) ∧ Below W.heap.size W w' from fun i W hb => by
    rw [← V.nodeV_nv, ← over_er hG.ov i]
    exact V.has_nodeI (V.overI M i) (hf.keep hb) hG.pos)
  unfold P.nodeV at HNd
  clear H hf hG
  go_enter Tryz.func24, Tryz.ntmps24
  go_wp2_with fail
  go_loopw [5, 13] (ItemsRel M l w) (fun _ v _ => l.length - (intOf v).toNat)
  case atStart => exact ⟨0, Nat.zero_le _, rfl, Lib.hid (World.ownsRow_nil _ _ _ _), Lib.hid (Below.refl _ _)⟩
  case round =>
    obtain ⟨k, hk, rfl, HO, HBr⟩ := hrel
    by_cases hlt : k < l.length
    · obtain ⟨en, hen⟩ : ∃ en, l[k]? = some en := ⟨_, List.getElem?_eq_getElem hlt⟩
      obtain ⟨g, o, ha, _, hr⟩ := (HE.out.keep HBr.out).at_ hen
      subst ha
      have e0 : wr.cell? ⟨g, o + k * 2, none⟩ = some (.string en.1) := hr 0 _ rfl
      have e1 : wr.cell? ⟨g, o + k * 2 + 1, none⟩ = some (.int .i64 en.2) := hr 1 _ rfl
      have HEn := Lib.hid hen
      clear hr hen
      go_upto_region 5 with fail
      have HB4 := Lib.hid (show Below w.heap.size w (wr.alloc (.cells #[.string en.1, .int .i64 en.2] 46)) from below_two HBr.out ((Below.refl _ _).alloc (Nat.le_refl _) _))
      have HX4 := Lib.hid (heap_alloc_new wr (.cells #[.string en.1, .int .i64 en.2] 46))
      have HO4 := Lib.hid (owns_to HO.out (show Below wr.heap.size wr (wr.alloc (.cells #[.string en.1, .int .i64 en.2] 46)) from (Below.refl _ _).alloc (Nat.le_refl _) _))
      generalize wr.alloc (.cells #[.string en.1, .int .i64 en.2] 46) = w4 at HB4 HX4 HO4 ⊢
      generalize wr.heap.size = B4 at HX4 ⊢
      have x1 : w4.cell? ⟨B4, 1, none⟩ = some (.int .i64 en.2) := by rw [cell_of_row _ _ _ _ _ _ HX4.out]; rfl
      clear e0 e1 HO HBr
      go_wp2_with fail
      refine (HOv.out en.2 _ HB4.out).mono ?_
      rintro e w5 ⟨rfl, rfl⟩
      go_wp2_with fail
      refine (HNd.out en.2 _ HB4.out).mono ?_
      rintro e w6 ⟨rfl, hb6⟩
      have HB6 := Lib.hid hb6
      clear hb6 x1
      obtain ⟨nd, hnd⟩ : ∃ nd, V.nvAt M (V.overI M en.2) = nd := ⟨_, rfl⟩
      have HNdE := Lib.hid hnd
      rw [hnd]
      clear hnd
      go_upto_region 7 with fail
      have HA7 := Lib.hid (show Below w6.heap.size w6 (w6.alloc (.cells #[.int .i64 nd.dev, .int .i64 nd.ino, .int .i64 nd.kind, .int .i64 nd.mode, .int .i64 nd.uid, .int .i64 nd.gid, .int .i64 nd.size, .int .i64 nd.blocks, .int .i64 nd.links, .int .i64 nd.ta, .int .i64 nd.tb, .int .i64 nd.tc, .string nd.target] 63)) from (Below.refl _ _).alloc (Nat.le_refl _) _)
      have HX7 := Lib.hid (heap_alloc_new w6 (.cells #[.int .i64 nd.dev, .int .i64 nd.ino, .int .i64 nd.kind, .int .i64 nd.mode, .int .i64 nd.uid, .int .i64 nd.gid, .int .i64 nd.size, .int .i64 nd.blocks, .int .i64 nd.links, .int .i64 nd.ta, .int .i64 nd.tb, .int .i64 nd.tc, .string nd.target] 63))
      generalize w6.alloc (.cells #[.int .i64 nd.dev, .int .i64 nd.ino, .int .i64 nd.kind, .int .i64 nd.mode, .int .i64 nd.uid, .int .i64 nd.gid, .int .i64 nd.size, .int .i64 nd.blocks, .int .i64 nd.links, .int .i64 nd.ta, .int .i64 nd.tb, .int .i64 nd.tc, .string nd.target] 63) = w7 at HA7 HX7 ⊢
      generalize w6.heap.size = B7 at HX7 ⊢
      have HB47 := Lib.hid (show Below w4.heap.size w4 w7 from below_two HB6.out HA7.out)
      have HB7 := Lib.hid (show Below w.heap.size w w7 from below_two HB4.out HB47.out)
      have HX47 := Lib.hid ((HB47.out.block _ (heap_lt HX4.out)).trans HX4.out)
      have HO7 := Lib.hid (owns_to HO4.out HB47.out)
      clear HB6 HA7 HB4 HX4 HO4 HB47 HOv HNd
      have hTl := there_take M l k
      obtain ⟨er, her⟩ : ∃ er, V.nodeEr M en.2 = er := ⟨_, rfl⟩
      rw [her]
      by_cases hz : er = 0
      · have HTk := Lib.hid (show thereL M (l.take (k + 1)) = thereL M (l.take k) ++ [en] from by rw [take_one HEn.out, there_snoc, if_pos (her.trans hz)])
        subst hz
        clear her
        generalize thereL M (l.take k) = T at HO7 hTl HTk
        go_wp2_with (first
          | (refine wpList_load_row rfl 46 (.tmp 7) rfl B4 rfl 46 #[.string en.1, .int .i64 en.2] (0, 0) _ HX47.out Tryz.underlying46 rfl sizeEn ?_)
          | (refine wpList_load_row rfl 63 (.tmp 9) rfl B7 rfl 63 #[.int .i64 nd.dev, .int .i64 nd.ino, .int .i64 nd.kind, .int .i64 nd.mode, .int .i64 nd.uid, .int .i64 nd.gid, .int .i64 nd.size, .int .i64 nd.blocks, .int .i64 nd.links, .int .i64 nd.ta, .int .i64 nd.tb, .int .i64 nd.tc, .string nd.target] (0, 0) _ HX7.out Tryz.underlying63 rfl sizeN ?_)
          | (at_builtin; go_loud (refine wpList_append_lies _ rfl (.tmp 29) (.tmp 34) 59 rfl w.heap.size 65 i0 _ 16 144 Tryz.underlying59 hi0 hz0 hz1 hz2 rfl (by decide) _ _ _ rfl (owns_to HO7.out ((Below.refl _ _).alloc (Nat.le_refl _) _)) ⟨w7.heap.size, 0, none⟩ 1 1 (itL en.1 en.2 (V.overI M en.2) nd) rfl rfl (World.news_of_block (heap_alloc_new _ _)) (itL_one _ _ _ _) (by decide) (by unfold maxLen; omega) (by omega) (HB7.out.alloc HB7.out.size _).size _ rfl ?_; intro g1 cap1 w8 hown hgrow hat hlt1; have HO8 := Lib.hid hown; have HB8 := Lib.hid ((HB7.out.alloc HB7.out.size _).grown hgrow (HB7.out.alloc HB7.out.size _).size (fun k e => (HO7.out.lt k e).1)); clear hown hgrow hat hlt1)))
        go_roundw
        case rel => exact ⟨k + 1, by omega, by simp, Lib.hid (by rw [HTk.out, cellsC_app, cellsC_one, List.length_append]; unfold itC; rw [HNdE.out]; exact HO8.out), HB8⟩
        case measure => simp [intOf]; omega
      · have HTk := Lib.hid (show thereL M (l.take (k + 1)) = thereL M (l.take k) from by rw [take_one HEn.out, there_snoc, if_neg (by rw [her]; exact hz)])
        have hz2 : (er == 0) = false := beq_eq_false_iff_ne.2 hz
        clear her
        go_wp2_with fail
        go_roundw
        case rel => exact ⟨k + 1, by omega, by simp, Lib.hid (by rw [HTk.out]; exact HO7.out), HB7⟩
        case measure => simp [intOf]; omega
    · obtain rfl : k = l.length := by omega
      go_wp2_with fail
      go_ret
      rw [List.take_length] at HO
      exact ⟨_, rfl, HO.out, HBr.out⟩
end Go.Proofs.YtfhagjnlliafiaaGreatDoor.I
namespace Go.Proofs.YtfhagjnlliafiaaGreatDoor.I
open Go.Proofs.YtfhagjnlliafiaaGreatDoor.B
open Go.RowKit
def numB (c : Nat) : Bool := !(c == 2 || c == 7 || c == 8)
def asksB (h : Hw) (c : Nat) : Bool := if c = 0 then h.inode else if c = 1 then h.blocks else if c = 8 then true else decide (h.form = 4)
theorem nine_cases {c : Nat} (h : c < 9) : c = 0 ∨ c = 1 ∨ c = 2 ∨ c = 3 ∨ c = 4 ∨ c = 5 ∨ c = 6 ∨ c = 7 ∨ c = 8 := by omega
theorem isNumber_any (c : Nat) (hc : c < 9) (w : World) :
    Calls Tryz.prog 76 #[.int .i64 (c : Int)] w fun e w' => e = .returned (.bool (numB c)) ∧ w = w' := by
  rcases nine_cases hc with rfl | rfl | rfl | rfl | rfl | rfl | rfl | rfl | rfl
  all_goals
    go_enter Tryz.func76, Tryz.ntmps76
    go_wp2
    go_ret
    exact ⟨rfl, rfl⟩
theorem asks_any (h : Hw) (c : Nat) (hc : c < 9) (w : World) :
    Calls Tryz.prog 50 #[hwV h, .int .i64 (c : Int)] w fun e w' => e = .returned (.bool (asksB h c)) ∧ Below w.heap.size w w' := by
  obtain ⟨d, hd⟩ : ∃ d, (h.form == 4) = d := ⟨_, rfl⟩
  have HD := Lib.hid (show decide (h.form = 4) = d from by rw [← hd]; rfl)
  unfold hwV
  rcases nine_cases hc with rfl | rfl | rfl | rfl | rfl | rfl | rfl | rfl | rfl
  all_goals
    go_enter Tryz.func50, Tryz.ntmps50
    go_wp2
    go_ret
    exact ⟨by first | rfl | (rw [← HD.out]; rfl), (Below.refl _ _).alloc (Nat.le_refl _) _⟩
end Go.Proofs.YtfhagjnlliafiaaGreatDoor.I
