/-
  What an item's row is.
  Conditions: each fact's own.
-/
import Derived.Test.YtfhagjnlliafiaaGreatDoorKIRow
import Derived.Test.YtfhagjnlliafiaaGreatDoorKPut
set_option linter.unusedSimpArgs false
set_option linter.unusedVariables false
set_option maxHeartbeats 16000000
set_option maxRecDepth 100000
open List renaming setIfInBounds_toArray → lt, set_cons_zero → l0, set_cons_succ → ls
open Go.Act renaming put → u
namespace Go.Proofs.YtfhagjnlliafiaaGreatDoor.I
open Go.Proofs.YtfhagjnlliafiaaGreatDoor.B
open Go.RowKit
structure OkR (n : P.Nv) : Prop where
  val : OkV n
  ino : I64 n.ino
  links : I64 n.links
  uid : I64 n.uid
  gid : I64 n.gid
structure OkH (h : Hw) : Prop where
  own : h.own.size ≤ 10000
  now : I64 h.now
  offset : I64 h.offset
def decT (n : Int) : ByteArray := ⟨(Lib.itoa n).toArray⟩
def whenT (h : Hw) (n : P.Nv) : ByteArray := S.txt (S.styleP h.style h.own.data.toList (clkI n h.clock) h.now h.offset)
def rowT (M : List V.Nd) (h : Hw) (qf : ByteArray → ByteArray) (s : ByteArray) (i : Int) (n : P.Nv) : List ByteArray := [decT n.ino, decT (N.ceilZ n.blocks 2), P.txt (P.textP n.kind n.mode), decT n.links, decT n.uid, decT n.gid, decT n.size, whenT h n, nameI M h qf s i n]
theorem ceil_bd {b : Int} (h : I64 b) : I64 (N.ceilZ b 2) := by
  obtain ⟨h0, h1⟩ := h
  unfold I64 N.ceilZ
  split
  · omega
  · omega
theorem sizeRow : (Tryz.prog.info? 103).map (·.size) = some 9 := by kernel_rfl
theorem row_any {M : List V.Nd} {p : Nat} (h : Hw) (qf : ByteArray → ByteArray) (s : ByteArray) (k i : Int) (n : P.Nv) (v0 w : World) (hf : V.Has v0 p M w) (hG : GoodI M) (ht : ITab w) (hq : QI h qf w) (hs : s.size ≤ 60000) (hn : OkR n) (hh : OkH h) :
    Calls Tryz.prog 54 #[itV s k i n, .pointer (some ⟨p, 0, none⟩), hwV h] w fun e w' => e = .returned (.agg (strs (rowT M h qf s i n)).toArray) ∧ Below w.heap.size w w' := by
  have hD : ∀ (x : Int), I64 x → ∀ (W : World), Below w.heap.size w W → Calls Tryz.prog 81 #[.int .i64 x] W fun e w' => e = .returned (.string (decT x)) ∧ Below W.heap.size W w' := fun x hx W hb => S.dec_any x W hx.1 hx.2 (ht.s.pow.keep hb)
  have H3 := Lib.hid (hD n.ino hn.ino)
  have H8 := Lib.hid (hD (N.ceilZ n.blocks 2) (ceil_bd hn.val.blk))
  have H15 := Lib.hid (hD n.links hn.links)
  have H19 := Lib.hid (hD n.uid hn.uid)
  have H23 := Lib.hid (hD n.gid hn.gid)
  have H27 := Lib.hid (hD n.size hn.val.size)
  have H7 := Lib.hid (fun (W : World) => unitsI_any n.blocks W hn.val.blk)
  have H11 := Lib.hid (fun (W : World) (hb : Below w.heap.size w W) => P.text_any n W (ht.p.keep hb))
  have H34 := Lib.hid (fun (W : World) => time_any s k i n h W)
  have H39 := Lib.hid (show ∀ (W : World), Below w.heap.size w W → Calls Tryz.prog 83 #[.int .i64 h.style, .string h.own, .int .i64 (clkI n h.clock), .int .i64 h.now, .int .i64 h.offset] W fun e w' => e = .returned (.string (whenT h n)) ∧ Below W.heap.size W w' from fun W hb => S.style_any h.style h.own (clkI n h.clock) h.now h.offset W (ht.s.keep hb) (by have := hh.own; omega) (clk_bd hn.val _).1 (clk_bd hn.val _).2 hh.now.1 hh.now.2 hh.offset.1 hh.offset.2)
  have H43 := Lib.hid (fun (W : World) (hb : Below w.heap.size w W) => name_any h qf s k i n v0 W (hf.keep hb) hG (ht.keep hb) (hq.keep hb) hs)
  have HRw := Lib.hid (show rowT M h qf s i n = [decT n.ino, decT (N.ceilZ n.blocks 2), P.txt (P.textP n.kind n.mode), decT n.links, decT n.uid, decT n.gid, decT n.size, whenT h n, nameI M h qf s i n] from rfl)
  unfold P.nodeV at H11
  unfold itV at H34 H43
  unfold hwV at H34 H43
  clear hf hG ht hq hs hn hh hD
  generalize rowT M h qf s i n = R at HRw ⊢
  generalize decT n.ino = t0 at H3 HRw
  generalize decT (N.ceilZ n.blocks 2) = t1 at H8 HRw
  generalize P.txt (P.textP n.kind n.mode) = t2 at H11 HRw
  generalize decT n.links = t3 at H15 HRw
  generalize decT n.uid = t4 at H19 HRw
  generalize decT n.gid = t5 at H23 HRw
  generalize decT n.size = t6 at H27 HRw
  generalize whenT h n = t7 at H39 HRw
  generalize nameI M h qf s i n = t8 at H43 HRw
  generalize clkI n h.clock = ct at H34 H39
  generalize N.ceilZ n.blocks 2 = cb at H7 H8
  unfold itV hwV
  go_enter Tryz.func54, Tryz.ntmps54
  go_upto_region 1 with fail
  obtain ⟨B0, hB0⟩ : ∃ B0, w.heap.size = B0 := ⟨_, rfl⟩
  obtain ⟨w1, hw1⟩ : ∃ w1, ((w.alloc (.cells #[.string s, .int .i64 k, .int .i64 i, .int .i64 n.dev, .int .i64 n.ino, .int .i64 n.kind, .int .i64 n.mode, .int .i64 n.uid, .int .i64 n.gid, .int .i64 n.size, .int .i64 n.blocks, .int .i64 n.links, .int .i64 n.ta, .int .i64 n.tb, .int .i64 n.tc, .string n.target] 65)).alloc (.cells #[.int .i64 h.form, .int .i64 h.most, .int .i64 h.order, .bool h.rev, .bool h.dirs, .int .i64 h.clock, .int .i64 h.quote, .bool h.mark, .bool h.inode, .bool h.blocks, .int .i64 h.style, .string h.own, .int .i64 h.now, .int .i64 h.offset] 25)).alloc (.cells #[.string ⟨#[]⟩, .string ⟨#[]⟩, .string ⟨#[]⟩, .string ⟨#[]⟩, .string ⟨#[]⟩, .string ⟨#[]⟩, .string ⟨#[]⟩, .string ⟨#[]⟩, .string ⟨#[]⟩] 103) = w1 := ⟨_, rfl⟩
  have HB1 := Lib.hid (show Below w.heap.size w w1 from by rw [← hw1]; exact below_a3 _ _ _ _)
  have HX1 := Lib.hid (show w1.heap[B0]? = some (.cells #[.string s, .int .i64 k, .int .i64 i, .int .i64 n.dev, .int .i64 n.ino, .int .i64 n.kind, .int .i64 n.mode, .int .i64 n.uid, .int .i64 n.gid, .int .i64 n.size, .int .i64 n.blocks, .int .i64 n.links, .int .i64 n.ta, .int .i64 n.tb, .int .i64 n.tc, .string n.target] 65) ∧ w1.heap[B0 + 1]? = some (.cells #[.int .i64 h.form, .int .i64 h.most, .int .i64 h.order, .bool h.rev, .bool h.dirs, .int .i64 h.clock, .int .i64 h.quote, .bool h.mark, .bool h.inode, .bool h.blocks, .int .i64 h.style, .string h.own, .int .i64 h.now, .int .i64 h.offset] 25) ∧ w1.heap[B0 + 1 + 1]? = some (.cells #[.string ⟨#[]⟩, .string ⟨#[]⟩, .string ⟨#[]⟩, .string ⟨#[]⟩, .string ⟨#[]⟩, .string ⟨#[]⟩, .string ⟨#[]⟩, .string ⟨#[]⟩, .string ⟨#[]⟩] 103 (0, 0)) from by
    rw [← hw1, ← hB0]
    exact three_new w _ _ _)
  rw [hw1, hB0]
  clear hw1
  have hB0' : w.heap.size ≤ B0 := by omega
  have hB2' : w.heap.size ≤ B0 + 1 + 1 := by omega
  clear hB0
  generalize hB2 : B0 + 1 + 1 = B2 at HX1 hB2' ⊢
  clear hB2
  generalize B0 + 1 = B1 at HX1 ⊢
  have HC := Lib.hid (show ∀ W, Below w1.heap.size w1 W → W.heap[B0]? = some (.cells #[.string s, .int .i64 k, .int .i64 i, .int .i64 n.dev, .int .i64 n.ino, .int .i64 n.kind, .int .i64 n.mode, .int .i64 n.uid, .int .i64 n.gid, .int .i64 n.size, .int .i64 n.blocks, .int .i64 n.links, .int .i64 n.ta, .int .i64 n.tb, .int .i64 n.tc, .string n.target] 65) ∧ W.heap[B1]? = some (.cells #[.int .i64 h.form, .int .i64 h.most, .int .i64 h.order, .bool h.rev, .bool h.dirs, .int .i64 h.clock, .int .i64 h.quote, .bool h.mark, .bool h.inode, .bool h.blocks, .int .i64 h.style, .string h.own, .int .i64 h.now, .int .i64 h.offset] 25) ∧ W.heap[B2]? = some (.cells #[.string ⟨#[]⟩, .string ⟨#[]⟩, .string ⟨#[]⟩, .string ⟨#[]⟩, .string ⟨#[]⟩, .string ⟨#[]⟩, .string ⟨#[]⟩, .string ⟨#[]⟩, .string ⟨#[]⟩] 103 (0, 0)) from fun W hb => ⟨(hb.block _ (heap_lt HX1.out.1)).trans HX1.out.1, (hb.block _ (heap_lt HX1.out.2.1)).trans HX1.out.2.1, (hb.block _ (heap_lt HX1.out.2.2)).trans HX1.out.2.2⟩)
  have HBw := Lib.hid (show ∀ W, Below w1.heap.size w1 W → Below w.heap.size w W from fun W hb => HB1.out.trans (hb.mono HB1.out.size))
  clear HX1
  refine B.Till.region (z := 45) (S := fun w' => Below w1.heap.size w1 w') (by kernel_rfl) ((Below.refl _ _).drew) (fun hHeld => ?_)
  refine B.Till.tz 0 (oi := ⟨some 7, .fieldAddr 65 (.tmp 3) 2, 0, "list.go:158", #[], none⟩) (.pointer (some ⟨B0, 3, none⟩)) rfl (fun w0 hS0 => ?_) ?_
  · go_simp
  try simp only [u, lt, l0, ls]
  refine B.Till.tz 1 (oi := ⟨some 8, .fieldAddr 63 (.tmp 7) 1, 0, "list.go:158", #[⟨0, .data⟩], none⟩) (.pointer (some ⟨B0, 4, none⟩)) rfl (fun w0 hS0 => ?_) ?_
  · go_simp
  try simp only [u, lt, l0, ls]
  refine B.Till.tz 2 (oi := ⟨some 9, .load 3 (.tmp 8), 3, "list.go:158", #[⟨1, .data⟩], none⟩) (.int .i64 n.ino) rfl (fun w0 hS0 => ?_) ?_
  · have b8 : w0.cell? ⟨B0, 4, none⟩ = some (.int .i64 n.ino) := by rw [cell_of_row _ _ _ _ _ _ (HC.out _ hS0).1]; rfl
    go_simp
  try simp only [u, lt, l0, ls]
  refine B.Till.tz 4 (oi := ⟨some 11, .fieldAddr 65 (.tmp 3) 2, 0, "list.go:158", #[], none⟩) (.pointer (some ⟨B0, 3, none⟩)) rfl (fun w0 hS0 => ?_) ?_
  · go_simp
  try simp only [u, lt, l0, ls]
  refine B.Till.tz 5 (oi := ⟨some 12, .fieldAddr 63 (.tmp 11) 7, 0, "list.go:158", #[⟨4, .data⟩], none⟩) (.pointer (some ⟨B0, 10, none⟩)) rfl (fun w0 hS0 => ?_) ?_
  · go_simp
  try simp only [u, lt, l0, ls]
  refine B.Till.tz 6 (oi := ⟨some 13, .load 2 (.tmp 12), 2, "list.go:158", #[⟨5, .data⟩], none⟩) (.int .i64 n.blocks) rfl (fun w0 hS0 => ?_) ?_
  · have b8 : w0.cell? ⟨B0, 10, none⟩ = some (.int .i64 n.blocks) := by rw [cell_of_row _ _ _ _ _ _ (HC.out _ hS0).1]; rfl
    go_simp
  try simp only [u, lt, l0, ls]
  refine B.Till.tz 9 (oi := ⟨some 16, .fieldAddr 65 (.tmp 3) 2, 0, "list.go:158", #[], none⟩) (.pointer (some ⟨B0, 3, none⟩)) rfl (fun w0 hS0 => ?_) ?_
  · go_simp
  try simp only [u, lt, l0, ls]
  refine B.Till.take (i := 10) (oi := ⟨some 17, .load 63 (.tmp 16), 63, "list.go:158", #[⟨9, .data⟩], none⟩) (v := .agg #[.int .i64 n.dev, .int .i64 n.ino, .int .i64 n.kind, .int .i64 n.mode, .int .i64 n.uid, .int .i64 n.gid, .int .i64 n.size, .int .i64 n.blocks, .int .i64 n.links, .int .i64 n.ta, .int .i64 n.tb, .int .i64 n.tc, .string n.target]) rfl (by kernel_rfl) (by kernel_rfl) (by kernel_rfl) (by kernel_rfl) (fun _ _ _ h => h) (yieldsIf_load_mid (by rfl) 63 (.tmp 16) rfl B0 3 rfl [.int .i64 n.dev, .int .i64 n.ino, .int .i64 n.kind, .int .i64 n.mode, .int .i64 n.uid, .int .i64 n.gid, .int .i64 n.size, .int .i64 n.blocks, .int .i64 n.links, .int .i64 n.ta, .int .i64 n.tb, .int .i64 n.tc, .string n.target] _ (fun w0 hS0 => range_mid (xs := [.string s, .int .i64 k, .int .i64 i]) (ys := []) (HC.out _ hS0).1) Tryz.underlying63 rfl sizeN) (by assumption) ?_
  try simp only [u, lt, l0, ls]
  refine B.Till.tz 12 (oi := ⟨some 19, .fieldAddr 65 (.tmp 3) 2, 0, "list.go:158", #[], none⟩) (.pointer (some ⟨B0, 3, none⟩)) rfl (fun w0 hS0 => ?_) ?_
  · go_simp
  try simp only [u, lt, l0, ls]
  refine B.Till.tz 13 (oi := ⟨some 20, .fieldAddr 63 (.tmp 19) 8, 0, "list.go:158", #[⟨12, .data⟩], none⟩) (.pointer (some ⟨B0, 11, none⟩)) rfl (fun w0 hS0 => ?_) ?_
  · go_simp
  try simp only [u, lt, l0, ls]
  refine B.Till.tz 14 (oi := ⟨some 21, .load 3 (.tmp 20), 3, "list.go:158", #[⟨13, .data⟩], none⟩) (.int .i64 n.links) rfl (fun w0 hS0 => ?_) ?_
  · have b8 : w0.cell? ⟨B0, 11, none⟩ = some (.int .i64 n.links) := by rw [cell_of_row _ _ _ _ _ _ (HC.out _ hS0).1]; rfl
    go_simp
  try simp only [u, lt, l0, ls]
  refine B.Till.tz 16 (oi := ⟨some 23, .fieldAddr 65 (.tmp 3) 2, 0, "list.go:158", #[], none⟩) (.pointer (some ⟨B0, 3, none⟩)) rfl (fun w0 hS0 => ?_) ?_
  · go_simp
  try simp only [u, lt, l0, ls]
  refine B.Till.tz 17 (oi := ⟨some 24, .fieldAddr 63 (.tmp 23) 4, 0, "list.go:158", #[⟨16, .data⟩], none⟩) (.pointer (some ⟨B0, 7, none⟩)) rfl (fun w0 hS0 => ?_) ?_
  · go_simp
  try simp only [u, lt, l0, ls]
  refine B.Till.tz 18 (oi := ⟨some 25, .load 3 (.tmp 24), 3, "list.go:158", #[⟨17, .data⟩], none⟩) (.int .i64 n.uid) rfl (fun w0 hS0 => ?_) ?_
  · have b8 : w0.cell? ⟨B0, 7, none⟩ = some (.int .i64 n.uid) := by rw [cell_of_row _ _ _ _ _ _ (HC.out _ hS0).1]; rfl
    go_simp
  try simp only [u, lt, l0, ls]
  refine B.Till.tz 20 (oi := ⟨some 27, .fieldAddr 65 (.tmp 3) 2, 0, "list.go:158", #[], none⟩) (.pointer (some ⟨B0, 3, none⟩)) rfl (fun w0 hS0 => ?_) ?_
  · go_simp
  try simp only [u, lt, l0, ls]
  refine B.Till.tz 21 (oi := ⟨some 28, .fieldAddr 63 (.tmp 27) 5, 0, "list.go:158", #[⟨20, .data⟩], none⟩) (.pointer (some ⟨B0, 8, none⟩)) rfl (fun w0 hS0 => ?_) ?_
  · go_simp
  try simp only [u, lt, l0, ls]
  refine B.Till.tz 22 (oi := ⟨some 29, .load 3 (.tmp 28), 3, "list.go:158", #[⟨21, .data⟩], none⟩) (.int .i64 n.gid) rfl (fun w0 hS0 => ?_) ?_
  · have b8 : w0.cell? ⟨B0, 8, none⟩ = some (.int .i64 n.gid) := by rw [cell_of_row _ _ _ _ _ _ (HC.out _ hS0).1]; rfl
    go_simp
  try simp only [u, lt, l0, ls]
  refine B.Till.tz 24 (oi := ⟨some 31, .fieldAddr 65 (.tmp 3) 2, 0, "list.go:158", #[], none⟩) (.pointer (some ⟨B0, 3, none⟩)) rfl (fun w0 hS0 => ?_) ?_
  · go_simp
  try simp only [u, lt, l0, ls]
  refine B.Till.tz 25 (oi := ⟨some 32, .fieldAddr 63 (.tmp 31) 6, 0, "list.go:158", #[⟨24, .data⟩], none⟩) (.pointer (some ⟨B0, 9, none⟩)) rfl (fun w0 hS0 => ?_) ?_
  · go_simp
  try simp only [u, lt, l0, ls]
  refine B.Till.tz 26 (oi := ⟨some 33, .load 2 (.tmp 32), 2, "list.go:158", #[⟨25, .data⟩], none⟩) (.int .i64 n.size) rfl (fun w0 hS0 => ?_) ?_
  · have b8 : w0.cell? ⟨B0, 9, none⟩ = some (.int .i64 n.size) := by rw [cell_of_row _ _ _ _ _ _ (HC.out _ hS0).1]; rfl
    go_simp
  try simp only [u, lt, l0, ls]
  refine B.Till.tz 28 (oi := ⟨some 35, .fieldAddr 25 (.tmp 5) 10, 0, "list.go:158", #[], none⟩) (.pointer (some ⟨B1, 10, none⟩)) rfl (fun w0 hS0 => ?_) ?_
  · go_simp
  try simp only [u, lt, l0, ls]
  refine B.Till.tz 29 (oi := ⟨some 36, .load 3 (.tmp 35), 3, "list.go:158", #[⟨28, .data⟩], none⟩) (.int .i64 h.style) rfl (fun w0 hS0 => ?_) ?_
  · have b8 : w0.cell? ⟨B1, 10, none⟩ = some (.int .i64 h.style) := by rw [cell_of_row _ _ _ _ _ _ (HC.out _ hS0).2.1]; rfl
    go_simp
  try simp only [u, lt, l0, ls]
  refine B.Till.tz 30 (oi := ⟨some 37, .fieldAddr 25 (.tmp 5) 11, 0, "list.go:158", #[], none⟩) (.pointer (some ⟨B1, 11, none⟩)) rfl (fun w0 hS0 => ?_) ?_
  · go_simp
  try simp only [u, lt, l0, ls]
  refine B.Till.tz 31 (oi := ⟨some 38, .load 9 (.tmp 37), 9, "list.go:158", #[⟨30, .data⟩], none⟩) (.string h.own) rfl (fun w0 hS0 => ?_) ?_
  · have b8 : w0.cell? ⟨B1, 11, none⟩ = some (.string h.own) := by rw [cell_of_row _ _ _ _ _ _ (HC.out _ hS0).2.1]; rfl
    go_simp
  try simp only [u, lt, l0, ls]
  refine B.Till.take (i := 32) (oi := ⟨some 39, .load 65 (.tmp 3), 65, "list.go:158", #[], none⟩) (v := .agg #[.string s, .int .i64 k, .int .i64 i, .int .i64 n.dev, .int .i64 n.ino, .int .i64 n.kind, .int .i64 n.mode, .int .i64 n.uid, .int .i64 n.gid, .int .i64 n.size, .int .i64 n.blocks, .int .i64 n.links, .int .i64 n.ta, .int .i64 n.tb, .int .i64 n.tc, .string n.target]) rfl (by kernel_rfl) (by kernel_rfl) (by kernel_rfl) (by kernel_rfl) (fun _ _ _ h => h) (yieldsIf_load_mid (by rfl) 65 (.tmp 3) rfl B0 0 rfl [.string s, .int .i64 k, .int .i64 i, .int .i64 n.dev, .int .i64 n.ino, .int .i64 n.kind, .int .i64 n.mode, .int .i64 n.uid, .int .i64 n.gid, .int .i64 n.size, .int .i64 n.blocks, .int .i64 n.links, .int .i64 n.ta, .int .i64 n.tb, .int .i64 n.tc, .string n.target] _ (fun w0 hS0 => range_of ((HC.out _ hS0).1)) Tryz.underlying65 rfl sizeIt) (by assumption) ?_
  try simp only [u, lt, l0, ls]
  refine B.Till.take (i := 33) (oi := ⟨some 40, .load 25 (.tmp 5), 25, "list.go:158", #[], none⟩) (v := .agg #[.int .i64 h.form, .int .i64 h.most, .int .i64 h.order, .bool h.rev, .bool h.dirs, .int .i64 h.clock, .int .i64 h.quote, .bool h.mark, .bool h.inode, .bool h.blocks, .int .i64 h.style, .string h.own, .int .i64 h.now, .int .i64 h.offset]) rfl (by kernel_rfl) (by kernel_rfl) (by kernel_rfl) (by kernel_rfl) (fun _ _ _ h => h) (yieldsIf_load_mid (by rfl) 25 (.tmp 5) rfl B1 0 rfl [.int .i64 h.form, .int .i64 h.most, .int .i64 h.order, .bool h.rev, .bool h.dirs, .int .i64 h.clock, .int .i64 h.quote, .bool h.mark, .bool h.inode, .bool h.blocks, .int .i64 h.style, .string h.own, .int .i64 h.now, .int .i64 h.offset] _ (fun w0 hS0 => range_of ((HC.out _ hS0).2.1)) Tryz.underlying25 rfl sizeHw) (by assumption) ?_
  try simp only [u, lt, l0, ls]
  refine B.Till.tz 35 (oi := ⟨some 42, .fieldAddr 25 (.tmp 5) 12, 0, "list.go:158", #[], none⟩) (.pointer (some ⟨B1, 12, none⟩)) rfl (fun w0 hS0 => ?_) ?_
  · go_simp
  try simp only [u, lt, l0, ls]
  refine B.Till.tz 36 (oi := ⟨some 43, .load 2 (.tmp 42), 2, "list.go:158", #[⟨35, .data⟩], none⟩) (.int .i64 h.now) rfl (fun w0 hS0 => ?_) ?_
  · have b8 : w0.cell? ⟨B1, 12, none⟩ = some (.int .i64 h.now) := by rw [cell_of_row _ _ _ _ _ _ (HC.out _ hS0).2.1]; rfl
    go_simp
  try simp only [u, lt, l0, ls]
  refine B.Till.tz 37 (oi := ⟨some 44, .fieldAddr 25 (.tmp 5) 13, 0, "list.go:158", #[], none⟩) (.pointer (some ⟨B1, 13, none⟩)) rfl (fun w0 hS0 => ?_) ?_
  · go_simp
  try simp only [u, lt, l0, ls]
  refine B.Till.tz 38 (oi := ⟨some 45, .load 3 (.tmp 44), 3, "list.go:158", #[⟨37, .data⟩], none⟩) (.int .i64 h.offset) rfl (fun w0 hS0 => ?_) ?_
  · have b8 : w0.cell? ⟨B1, 13, none⟩ = some (.int .i64 h.offset) := by rw [cell_of_row _ _ _ _ _ _ (HC.out _ hS0).2.1]; rfl
    go_simp
  try simp only [u, lt, l0, ls]
  refine B.Till.take (i := 40) (oi := ⟨some 47, .load 65 (.tmp 3), 65, "list.go:158", #[], none⟩) (v := .agg #[.string s, .int .i64 k, .int .i64 i, .int .i64 n.dev, .int .i64 n.ino, .int .i64 n.kind, .int .i64 n.mode, .int .i64 n.uid, .int .i64 n.gid, .int .i64 n.size, .int .i64 n.blocks, .int .i64 n.links, .int .i64 n.ta, .int .i64 n.tb, .int .i64 n.tc, .string n.target]) rfl (by kernel_rfl) (by kernel_rfl) (by kernel_rfl) (by kernel_rfl) (fun _ _ _ h => h) (yieldsIf_load_mid (by rfl) 65 (.tmp 3) rfl B0 0 rfl [.string s, .int .i64 k, .int .i64 i, .int .i64 n.dev, .int .i64 n.ino, .int .i64 n.kind, .int .i64 n.mode, .int .i64 n.uid, .int .i64 n.gid, .int .i64 n.size, .int .i64 n.blocks, .int .i64 n.links, .int .i64 n.ta, .int .i64 n.tb, .int .i64 n.tc, .string n.target] _ (fun w0 hS0 => range_of ((HC.out _ hS0).1)) Tryz.underlying65 rfl sizeIt) (by assumption) ?_
  try simp only [u, lt, l0, ls]
  refine B.Till.tz 41 (oi := ⟨some 48, .move (.tmp 1), 30, "list.go:158", #[], none⟩) (.pointer (some ⟨p, 0, none⟩)) rfl (fun w0 hS0 => ?_) ?_
  · go_simp
  try simp only [u, lt, l0, ls]
  refine B.Till.take (i := 42) (oi := ⟨some 49, .load 25 (.tmp 5), 25, "list.go:158", #[], none⟩) (v := .agg #[.int .i64 h.form, .int .i64 h.most, .int .i64 h.order, .bool h.rev, .bool h.dirs, .int .i64 h.clock, .int .i64 h.quote, .bool h.mark, .bool h.inode, .bool h.blocks, .int .i64 h.style, .string h.own, .int .i64 h.now, .int .i64 h.offset]) rfl (by kernel_rfl) (by kernel_rfl) (by kernel_rfl) (by kernel_rfl) (fun _ _ _ h => h) (yieldsIf_load_mid (by rfl) 25 (.tmp 5) rfl B1 0 rfl [.int .i64 h.form, .int .i64 h.most, .int .i64 h.order, .bool h.rev, .bool h.dirs, .int .i64 h.clock, .int .i64 h.quote, .bool h.mark, .bool h.inode, .bool h.blocks, .int .i64 h.style, .string h.own, .int .i64 h.now, .int .i64 h.offset] _ (fun w0 hS0 => range_of ((HC.out _ hS0).2.1)) Tryz.underlying25 rfl sizeHw) (by assumption) ?_
  try simp only [u, lt, l0, ls]
  refine B.Till.tn 3 rfl fun K hK => ?_
  go_simp
  refine (H3.out _ (HBw.out _ hHeld)).mono ?_
  rintro e w3 ⟨rfl, hb3⟩
  have hH3 : Below w1.heap.size w1 w3 := hHeld.trans (hb3.mono hHeld.size)
  clear hb3
  go_wp2_with fail
  refine hK.out _ _ (fun _ => hH3) ?_
  clear hK K
  try simp only [u, lt, l0, ls]
  refine B.Till.tn 7 rfl fun K hK => ?_
  go_simp
  refine (H7.out _).mono ?_
  rintro e w7 ⟨rfl, rfl⟩
  go_wp2_with fail
  refine hK.out _ _ (fun _ => hH3) ?_
  clear hK K
  try simp only [u, lt, l0, ls]
  refine B.Till.tn 8 rfl fun K hK => ?_
  go_simp
  refine (H8.out _ (HBw.out _ hH3)).mono ?_
  rintro e w8 ⟨rfl, hb8⟩
  have hH8 : Below w1.heap.size w1 w8 := hH3.trans (hb8.mono hH3.size)
  clear hb8
  go_wp2_with fail
  refine hK.out _ _ (fun _ => hH8) ?_
  clear hK K
  try simp only [u, lt, l0, ls]
  refine B.Till.tn 11 rfl fun K hK => ?_
  go_simp
  refine (H11.out _ (HBw.out _ hH8)).mono ?_
  rintro e w11 ⟨rfl, hb11⟩
  have hH11 : Below w1.heap.size w1 w11 := hH8.trans (hb11.mono hH8.size)
  clear hb11
  go_wp2_with fail
  refine hK.out _ _ (fun _ => hH11) ?_
  clear hK K
  try simp only [u, lt, l0, ls]
  refine B.Till.tn 15 rfl fun K hK => ?_
  go_simp
  refine (H15.out _ (HBw.out _ hH11)).mono ?_
  rintro e w15 ⟨rfl, hb15⟩
  have hH15 : Below w1.heap.size w1 w15 := hH11.trans (hb15.mono hH11.size)
  clear hb15
  go_wp2_with fail
  refine hK.out _ _ (fun _ => hH15) ?_
  clear hK K
  try simp only [u, lt, l0, ls]
  refine B.Till.tn 19 rfl fun K hK => ?_
  go_simp
  refine (H19.out _ (HBw.out _ hH15)).mono ?_
  rintro e w19 ⟨rfl, hb19⟩
  have hH19 : Below w1.heap.size w1 w19 := hH15.trans (hb19.mono hH15.size)
  clear hb19
  go_wp2_with fail
  refine hK.out _ _ (fun _ => hH19) ?_
  clear hK K
  try simp only [u, lt, l0, ls]
  refine B.Till.tn 23 rfl fun K hK => ?_
  go_simp
  refine (H23.out _ (HBw.out _ hH19)).mono ?_
  rintro e w23 ⟨rfl, hb23⟩
  have hH23 : Below w1.heap.size w1 w23 := hH19.trans (hb23.mono hH19.size)
  clear hb23
  go_wp2_with fail
  refine hK.out _ _ (fun _ => hH23) ?_
  clear hK K
  try simp only [u, lt, l0, ls]
  refine B.Till.tn 27 rfl fun K hK => ?_
  go_simp
  refine (H27.out _ (HBw.out _ hH23)).mono ?_
  rintro e w27 ⟨rfl, hb27⟩
  have hH27 : Below w1.heap.size w1 w27 := hH23.trans (hb27.mono hH23.size)
  clear hb27
  go_wp2_with fail
  refine hK.out _ _ (fun _ => hH27) ?_
  clear hK K
  try simp only [u, lt, l0, ls]
  refine B.Till.tn 34 rfl fun K hK => ?_
  go_simp
  refine (H34.out _).mono ?_
  rintro e w34 ⟨rfl, hb34⟩
  have hH34 : Below w1.heap.size w1 w34 := hH27.trans (hb34.mono hH27.size)
  clear hb34
  go_wp2_with fail
  refine hK.out _ _ (fun _ => hH34) ?_
  clear hK K
  try simp only [u, lt, l0, ls]
  refine B.Till.tn 39 rfl fun K hK => ?_
  go_simp
  refine (H39.out _ (HBw.out _ hH34)).mono ?_
  rintro e w39 ⟨rfl, hb39⟩
  have hH39 : Below w1.heap.size w1 w39 := hH34.trans (hb39.mono hH34.size)
  clear hb39
  go_wp2_with fail
  refine hK.out _ _ (fun _ => hH39) ?_
  clear hK K
  try simp only [u, lt, l0, ls]
  refine B.Till.tn 43 rfl fun K hK => ?_
  go_simp
  refine (H43.out _ (HBw.out _ hH39)).mono ?_
  rintro e w43 ⟨rfl, hb43⟩
  have hH43 : Below w1.heap.size w1 w43 := hH39.trans (hb43.mono hH39.size)
  clear hb43
  go_wp2_with fail
  refine hK.out _ _ (fun _ => hH43) ?_
  clear hK K
  try simp only [u, lt, l0, ls]
  refine B.Till.tz 44 (oi := ⟨some 51, .build 103 #[(0, .tmp 10), (1, .tmp 15), (2, .tmp 18), (3, .tmp 22), (4, .tmp 26), (5, .tmp 30), (6, .tmp 34), (7, .tmp 46), (8, .tmp 50)], 103, "list.go:158", #[⟨3, .data⟩, ⟨8, .data⟩, ⟨11, .data⟩, ⟨15, .data⟩, ⟨19, .data⟩, ⟨23, .data⟩, ⟨27, .data⟩, ⟨39, .data⟩, ⟨43, .data⟩], none⟩) (.agg #[.string t0, .string t1, .string t2, .string t3, .string t4, .string t5, .string t6, .string t7, .string t8]) rfl (fun w0 hS0 => ?_) ?_
  · go_simp
  try simp only [u, lt, l0, ls]
  refine B.Till.tn 45 rfl fun K hK => ?_
  refine step_store_own rfl 103 (.tmp 6) (.tmp 51) rfl B2 #[.string t0, .string t1, .string t2, .string t3, .string t4, .string t5, .string t6, .string t7, .string t8] rfl rfl 103 _ (HC.out _ hH43).2.2 sizeRow rfl (by simp [Value.oneCell']) ?_
  refine hK.out _ _ (fun q => absurd rfl q) ?_
  clear hK K
  try simp only [u, lt, l0, ls]
  refine B.Till.done (by kernel_rfl) ?_
  go_wp2_with fail
  refine bodyPost_ret (v := .agg (strs R).toArray) ?_ rfl ⟨rfl, below_setR (HBw.out _ hH43) hB2' _⟩
  have hx := setRow_heap _ B2 _ #[.string t0, .string t1, .string t2, .string t3, .string t4, .string t5, .string t6, .string t7, .string t8] _ _ (HC.out _ hH43).2.2
  rw [HRw.out]
  exact results_cell_row Tryz.results54 _ _ B2 _ _ _ _ rfl hx Tryz.underlying103 rfl sizeRow
end Go.Proofs.YtfhagjnlliafiaaGreatDoor.I
namespace Go.Proofs.YtfhagjnlliafiaaGreatDoor.I
open Go.Proofs.YtfhagjnlliafiaaGreatDoor.B
open Go.RowKit
def r9 (r : Nat → ByteArray) : List Value := [.string (r 0), .string (r 1), .string (r 2), .string (r 3), .string (r 4), .string (r 5), .string (r 6), .string (r 7), .string (r 8)]
theorem r9_len (r : Nat → ByteArray) : (r9 r).length = 9 := rfl
def noRow : Nat → ByteArray := fun _ => ⟨#[]⟩
def rowF (M : List V.Nd) (h : Hw) (qf : ByteArray → ByteArray) (e : En) : Nat → ByteArray := fun j => (rowT M h qf e.1 (V.overI M e.2) (V.nvAt M (V.overI M e.2))).getD j ⟨#[]⟩
theorem rowF_strs (M : List V.Nd) (h : Hw) (qf : ByteArray → ByteArray) (e : En) : strs (rowT M h qf e.1 (V.overI M e.2) (V.nvAt M (V.overI M e.2))) = r9 (rowF M h qf e) := rfl
theorem infoRow : (Tryz.prog.info? 103).map (fun i => (i.zero, i.size, i.bytes)) = some (some (.agg (r9 noRow).toArray), 9, 144) := by kernel_rfl
theorem row_made (n : Nat) : (madeCells (Value.agg (r9 noRow).toArray).cells (n * 9)).toList = cellsC r9 (List.replicate n noRow) := made_cells (z := (Value.agg (r9 noRow).toArray).cells) rfl noRow rfl (by decide) n
def RowsRel (w2 : World) (gk : Nat) (R : List (Nat → ByteArray)) (v15 : Value) (wr : World) : Prop :=
  ∃ i : Nat, i ≤ R.length ∧ v15 = .int .i64 (i : Int) ∧ Hid (wr.ownsRow w2.heap.size 103 9 (.slice (some ⟨gk, 0, none⟩) R.length R.length) R.length (cellsC r9 (setsL R noRow i))) ∧ Hid (Below w2.heap.size w2 wr)
theorem rowsOf_any {M : List V.Nd} {p : Nat} (h : Hw) (qf : ByteArray → ByteArray) (T : List En) (fa : Option Addr) (fc b : Nat) (v0 w : World) (hf : V.Has v0 p M w) (hG : GoodI M) (ht : ITab w) (hq : QI h qf w) (HT : w.ownsRow b 65 16 (.slice fa T.length fc) T.length (cellsC (itC M) T)) (hl : T.length ≤ 1000) (hz : ∀ e ∈ T, e.1.size ≤ 60000) (hn : ∀ i, OkR (V.nvAt M i)) (hh : OkH h) :
    Calls Tryz.prog 30 #[.pointer (some ⟨p, 0, none⟩), .slice fa T.length fc, hwV h] w fun e w' => ∃ v, e = .returned v ∧ w'.ownsRow w.heap.size 103 9 v T.length (cellsC r9 (T.map (rowF M h qf))) ∧ Below w.heap.size w w' := by
  obtain ⟨j0, hj0, hy0, hy1, hy2⟩ := info_parts infoRow
  have HRw := Lib.hid (fun (e : En) (he : e ∈ T) (W : World) (hb : Below w.heap.size w W) => row_any h qf e.1 e.2 (V.overI M e.2) (V.nvAt M (V.overI M e.2)) v0 W (hf.keep hb) hG (ht.keep hb) (hq.keep hb) (hz e he) (hn _) hh)
  have HOt := Lib.hid HT
  have HRl := Lib.hid (show (T.map (rowF M h qf)).length = T.length from List.length_map _)
  have HRa := Lib.hid (show ∀ (i : Nat) (e : En), T[i]? = some e → (T.map (rowF M h qf))[i]? = some (rowF M h qf e) from fun i e he => by rw [List.getElem?_map, he]; rfl)
  have HRs := Lib.hid (fun (e : En) => rowF_strs M h qf e)
  unfold itV at HRw
  unfold hwV at HRw ⊢
  clear hf hG ht hq HT hz hn hh
  generalize T.map (rowF M h qf) = R at HRl HRa ⊢
  go_enter Tryz.func30, Tryz.ntmps30
  go_upto_region 1 with fail
  obtain ⟨B0, hB0⟩ : ∃ B0, w.heap.size = B0 := ⟨_, rfl⟩
  obtain ⟨w1, hw1⟩ : ∃ w1, w.alloc (.cells #[.int .i64 h.form, .int .i64 h.most, .int .i64 h.order, .bool h.rev, .bool h.dirs, .int .i64 h.clock, .int .i64 h.quote, .bool h.mark, .bool h.inode, .bool h.blocks, .int .i64 h.style, .string h.own, .int .i64 h.now, .int .i64 h.offset] 25) = w1 := ⟨_, rfl⟩
  have HB1 := Lib.hid (show Below w.heap.size w w1 from by rw [← hw1]; exact (Below.refl _ _).alloc (Nat.le_refl _) _)
  have HX1 := Lib.hid (show w1.heap[B0]? = some (.cells #[.int .i64 h.form, .int .i64 h.most, .int .i64 h.order, .bool h.rev, .bool h.dirs, .int .i64 h.clock, .int .i64 h.quote, .bool h.mark, .bool h.inode, .bool h.blocks, .int .i64 h.style, .string h.own, .int .i64 h.now, .int .i64 h.offset] 25) from by rw [← hw1, ← hB0]; exact heap_alloc_new _ _)
  have HO1 := Lib.hid (owns_to HOt.out HB1.out)
  rw [hw1, hB0]
  clear hw1 hB0 HOt
  go_upto_region 2 with (at_make; go_loud (refine wpList_make_full _ rfl (.tmp 11) (.tmp 11) 79 rfl w1.heap.size 103 j0 _ 9 Tryz.underlying79 hj0 hy0 hy1 .i64 .i64 _ _ T.length rfl rfl rfl rfl (by rw [hy2]; omega) (by unfold maxLen; omega) (Nat.le_refl _) ?_; intro w3 hown hgrow))
  rw [row_made] at hown
  have HB3 := Lib.hid ((Below.refl w1.heap.size w1).grown hgrow (Nat.le_refl _) (fun j hj => by cases hj))
  have HO3 := Lib.hid (show w3.ownsRow w1.heap.size 103 9 (.slice (some ⟨w1.heap.size, 0, none⟩) R.length R.length) R.length (cellsC r9 (setsL R noRow 0)) from by rw [sets_zero, HRl.out]; exact hown)
  clear hown hgrow
  go_wp2_with fail
  go_loopw [15] (RowsRel w1 w1.heap.size R) (fun v _ => T.length - (intOf v).toNat)
  case atStart => exact ⟨0, Nat.zero_le _, rfl, HO3, HB3⟩
  case round =>
    obtain ⟨i, hi, rfl, HO, HBr⟩ := hrel
    have hRl := HRl.out
    by_cases hlt : i < T.length
    · obtain ⟨en, hen⟩ : ∃ en, T[i]? = some en := ⟨_, List.getElem?_eq_getElem hlt⟩
      obtain ⟨g, cg, hv, _, _⟩ := owns_some HO1.out (show 0 < T.length by omega)
      simp only [Value.slice.injEq] at hv
      obtain ⟨rfl, _, rfl⟩ := hv
      have HRg := Lib.hid (item_at HO1.out HBr.out hen)
      have HRi := Lib.hid (HRa.out i en hen)
      have HCl := Lib.hid (HRw.out en (List.mem_of_getElem? hen))
      have HSt := Lib.hid (HRs.out en)
      unfold itC itL at HRg
      generalize V.nvAt M (V.overI M en.2) = nd at HRg HCl HSt
      generalize V.overI M en.2 = oi at HRg HCl HSt
      rw [HSt.out] at HCl
      generalize rowF M h qf en = rr at HRi HCl
      clear hen HSt
      unfold r9 at HCl
      go_upto_region 5 with (refine wpList_load_mid rfl 65 (.tmp 18) rfl g (i * 16) rfl _ _ HRg.out Tryz.underlying65 rfl sizeIt ?_)
      have HA8 := Lib.hid (show Below wr.heap.size wr (wr.alloc (.cells (itL en.1 en.2 oi nd).toArray 65)) from (Below.refl _ _).alloc (Nat.le_refl _) _)
      have HX8 := Lib.hid (heap_alloc_new wr (.cells (itL en.1 en.2 oi nd).toArray 65))
      unfold itL at HA8 HX8
      generalize wr.alloc (.cells _ 65) = w8 at HA8 HX8 ⊢
      have HB8 := Lib.hid (HBr.out.trans (HA8.out.mono HBr.out.size))
      have HO8 := Lib.hid (owns_to HO.out HA8.out)
      have HXh := Lib.hid ((HB8.out.block _ (heap_lt HX1.out)).trans HX1.out)
      have HW8 := Lib.hid (HB1.out.trans (HB8.out.mono HB1.out.size))
      generalize wr.heap.size = B8 at HX8 ⊢
      clear HA8 HRg HO HBr
      have hiR : i < R.length := by omega
      go_wp2_with (first
        | (refine wpList_load_row rfl 65 (.tmp 9) rfl B8 rfl 65 _ (0, 0) _ HX8.out Tryz.underlying65 rfl sizeIt ?_)
        | (refine wpList_load_row rfl 25 (.tmp 5) rfl B0 rfl 25 _ (0, 0) _ HXh.out Tryz.underlying25 rfl sizeHw ?_))
      refine (HCl.out _ HW8.out).mono ?_
      rintro e w9 ⟨rfl, hb9⟩
      have HO9 := Lib.hid (owns_to HO8.out hb9)
      have HB9 := Lib.hid (HB8.out.trans (hb9.mono HB8.out.size))
      clear hb9 HO8 HX8 HXh HW8
      have HOn := Lib.hid (show (w9.setCells w1.heap.size (i * 9) (r9 rr)).ownsRow w1.heap.size 103 9 (.slice (some ⟨w1.heap.size, 0, none⟩) R.length R.length) R.length (cellsC r9 (setsL R noRow (i + 1))) from by
        have := owns_put r9_len HO9.out (i := i) (by rw [sets_len (Nat.le_of_lt hiR)]; exact hiR) rr
        rwa [sets_step HRi.out] at this)
      have HBn := Lib.hid (below_cells w1.heap.size (Nat.le_refl _) (r9 rr) (i * 9) w9 HB9.out)
      have HTh := Lib.hid (show w9.there w1.heap.size (i * 9) (#[.string (rr 0), .string (rr 1), .string (rr 2), .string (rr 3), .string (rr 4), .string (rr 5), .string (rr 6), .string (rr 7), .string (rr 8)] : Array Value).size from owns_there r9_len HO9.out (i := i) (by rw [sets_len (Nat.le_of_lt hiR)]; exact hiR))
      unfold r9 at HOn HBn
      go_wp2_with (refine wpList_store_mid rfl 103 (.tmp 26) (.tmp 25) rfl w1.heap.size (i * 9) #[.string (rr 0), .string (rr 1), .string (rr 2), .string (rr 3), .string (rr 4), .string (rr 5), .string (rr 6), .string (rr 7), .string (rr 8)] rfl rfl (by with_reducible exact HTh.out) sizeRow (by simp [Value.oneCell']) ?_)
      go_roundw
      case rel => exact ⟨i + 1, by omega, by simp, HOn, HBn⟩
      case measure => simp [intOf]; omega
    · obtain rfl : i = T.length := by omega
      have d0 : decide (((T.length : Nat) : Int) < (T.length : Int)) = false := decide_eq_false (by omega)
      rw [← HRl.out, sets_all] at HO
      have HLo := Lib.hid HB1.out.size
      go_wp2_with fail
      go_ret
      exact ⟨_, rfl, by have q := owns_low HO.out HLo.out; rw [HRl.out] at q; exact q, HB1.out.trans (HBr.out.mono HB1.out.size)⟩
end Go.Proofs.YtfhagjnlliafiaaGreatDoor.I
