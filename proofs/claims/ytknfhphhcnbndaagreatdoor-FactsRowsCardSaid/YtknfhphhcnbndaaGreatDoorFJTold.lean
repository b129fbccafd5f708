/-
  What facts' what, quoted and told return: what a directive tells of a node. Conditions: the node's numbers are within their bounds, texts of at most 60000 bytes; the library's tables and the table of classes lie.
-/
import Derived.Test.YtknfhphhcnbndaaGreatDoorFJModM
import Derived.Test.YtknfhphhcnbndaaGreatDoorFJMem
import Derived.Test.YtknfhphhcnbndaaGreatDoorFPRefText
import Derived.Test.YtknfhphhcnbndaaGreatDoorFFormat
import Derived.Deep.CutRange
import Derived.Deep.MidRow
set_option linter.unusedSimpArgs false
set_option linter.unusedVariables false
namespace Go.Proofs.YtknfhphhcnbndaaGreatDoor.J
open Go.Proofs.YtknfhphhcnbndaaGreatDoor.B
open Go.RowKit

/-- What quote.Quote returns in the style in which a directive writes names: a text's qf. -/
structure QJ (qf : ByteArray → ByteArray) (w : World) : Prop where
  quote : ∀ (s : ByteArray) (X : World), s.size ≤ 60000 → Below w.heap.size w X → Calls Tryz.prog 33 #[.int .i64 1, .string s] X fun e w' => e = .returned (.string (qf s)) ∧ Below X.heap.size X w'
  size : ∀ s : ByteArray, s.size ≤ 60000 → (qf s).size ≤ 7 * s.size + 2
theorem QJ.keep {qf : ByteArray → ByteArray} {w w' : World} (H : QJ qf w) (hb : Below w.heap.size w w') : QJ qf w' := ⟨fun s X hs hX => H.quote s X hs (hb.trans (hX.mono hb.size)), H.size⟩
/-- The tables that directives want. -/
structure FTab (w : World) : Prop where
  p : P.Tab w
  n : N.Tab w
  z : N.TzTab w
theorem FTab.keep {w w' : World} (h : FTab w) (hb : Below w.heap.size w w') : FTab w' := ⟨h.p.keep hb, h.n.keep hb, h.z.keep hb⟩
theorem sizeSub : (Tryz.prog.info? 173).map (·.size) = some 15 := by kernel_rfl
theorem sizeNd : (Tryz.prog.info? 66).map (·.size) = some 13 := by kernel_rfl
def ndC (n : P.Nv) : List Value := [.int .i64 n.dev, .int .i64 n.ino, .int .i64 n.kind, .int .i64 n.mode, .int .i64 n.uid, .int .i64 n.gid, .int .i64 n.size, .int .i64 n.blocks, .int .i64 n.links, .int .i64 n.ta, .int .i64 n.tb, .int .i64 n.tc, .string n.target]
theorem ndC_one (n : P.Nv) : (ndC n).toArray.all (·.oneCell') = true := by simp [ndC, Value.oneCell']
def subC (n : P.Nv) (nm lt : ByteArray) : Array Value := #[.int .i64 n.dev, .int .i64 n.ino, .int .i64 n.kind, .int .i64 n.mode, .int .i64 n.uid, .int .i64 n.gid, .int .i64 n.size, .int .i64 n.blocks, .int .i64 n.links, .int .i64 n.ta, .int .i64 n.tb, .int .i64 n.tc, .string n.target, .string nm, .string lt]
def subV (n : P.Nv) (nm lt : ByteArray) : Value := .agg (subC n nm lt)

set_option maxRecDepth 100000 in
set_option maxHeartbeats 2000000 in
theorem what_any (n : P.Nv) (w : World) :
    Calls Tryz.prog 197 #[P.nodeV n] w fun e w' => e = .returned (.string (txt (whatL n))) ∧ Below w.heap.size w w' := by
  have HBa := Lib.hid (show ∀ o, Below w.heap.size w (w.alloc o) from fun o => (Below.refl _ _).alloc (Nat.le_refl _) _)
  have HW := Lib.hid (show txt (whatL n) = if n.kind = 2 then txt dirW else if n.kind = 3 then txt lnkW else if n.size = 0 then txt emptyW else txt fileW from by unfold whatL; by_cases h2 : n.kind = 2 <;> by_cases h3 : n.kind = 3 <;> by_cases h0 : n.size = 0 <;> simp [h2, h3, h0])
  generalize txt (whatL n) = R at HW ⊢
  unfold txt dirW lnkW emptyW fileW at HW
  unfold P.nodeV
  by_cases h2 : n.kind = 2
  · have hR := HW.out
    rw [if_pos h2] at hR
    subst hR
    have d2 : (n.kind == 2) = true := beq_iff_eq.2 h2
    clear h2 HW
    go_enter Tryz.func197, Tryz.ntmps197
    go_wp2_with fail
    go_ret
    exact ⟨rfl, HBa.out _⟩
  · have d2 : (n.kind == 2) = false := beq_eq_false_iff_ne.2 h2
    by_cases h3 : n.kind = 3
    · have hR := HW.out
      rw [if_neg h2, if_pos h3] at hR
      subst hR
      have d3 : (n.kind == 3) = true := beq_iff_eq.2 h3
      clear h2 h3 HW
      go_enter Tryz.func197, Tryz.ntmps197
      go_wp2_with fail
      go_ret
      exact ⟨rfl, HBa.out _⟩
    · have d3 : (n.kind == 3) = false := beq_eq_false_iff_ne.2 h3
      by_cases h0 : n.size = 0
      · have hR := HW.out
        rw [if_neg h2, if_neg h3, if_pos h0] at hR
        subst hR
        have d0 : (n.size == 0) = true := beq_iff_eq.2 h0
        clear h2 h3 h0 HW
        go_enter Tryz.func197, Tryz.ntmps197
        go_wp2_with fail
        go_ret
        exact ⟨rfl, HBa.out _⟩
      · have hR := HW.out
        rw [if_neg h2, if_neg h3, if_neg h0] at hR
        subst hR
        have d0 : (n.size == 0) = false := beq_eq_false_iff_ne.2 h0
        clear h2 h3 h0 HW
        go_enter Tryz.func197, Tryz.ntmps197
        go_wp2_with fail
        go_ret
        exact ⟨rfl, HBa.out _⟩

set_option maxRecDepth 100000 in
set_option maxHeartbeats 2000000 in
theorem quoted_any (n : P.Nv) (nm lt : ByteArray) (qf : ByteArray → ByteArray) (w : World) (hq : QJ qf w) (hn : nm.size ≤ 60000) (hl : lt.size ≤ 60000) :
    Calls Tryz.prog 194 #[subV n nm lt] w fun e w' => e = .returned (.string (quotB qf n.kind nm lt)) ∧ Below w.heap.size w w' := by
  have HQ := Lib.hid (fun (W : World) (hb : Below w.heap.size w W) => hq.quote nm W hn hb)
  have HQ2 := Lib.hid (fun (W : World) (hb : Below w.heap.size w W) => hq.quote lt W hl hb)
  have HS1 := Lib.hid (hq.size nm hn)
  have HS2 := Lib.hid (hq.size lt hl)
  have HR := Lib.hid (show quotB qf n.kind nm lt = if n.kind = 3 then qf nm ++ (arrow ++ qf lt) else qf nm from rfl)
  unfold arrow at HR
  generalize quotB qf n.kind nm lt = R at HR ⊢
  generalize qf lt = q2 at HQ2 HR HS2
  generalize qf nm = q1 at HQ HR HS1
  clear hq
  have hs1 := HS1.out
  have hs2 := HS2.out
  unfold subV subC
  go_enter Tryz.func194, Tryz.ntmps194
  go_upto_region 1 with fail
  have HB0 := Lib.hid (show Below w.heap.size w (w.alloc (.cells #[.int .i64 n.dev, .int .i64 n.ino, .int .i64 n.kind, .int .i64 n.mode, .int .i64 n.uid, .int .i64 n.gid, .int .i64 n.size, .int .i64 n.blocks, .int .i64 n.links, .int .i64 n.ta, .int .i64 n.tb, .int .i64 n.tc, .string n.target, .string nm, .string lt] 173)) from (Below.refl _ _).alloc (Nat.le_refl _) _)
  have HX0 := Lib.hid (heap_alloc_new w (.cells #[.int .i64 n.dev, .int .i64 n.ino, .int .i64 n.kind, .int .i64 n.mode, .int .i64 n.uid, .int .i64 n.gid, .int .i64 n.size, .int .i64 n.blocks, .int .i64 n.links, .int .i64 n.ta, .int .i64 n.tb, .int .i64 n.tc, .string n.target, .string nm, .string lt] 173))
  generalize w.alloc (.cells #[.int .i64 n.dev, .int .i64 n.ino, .int .i64 n.kind, .int .i64 n.mode, .int .i64 n.uid, .int .i64 n.gid, .int .i64 n.size, .int .i64 n.blocks, .int .i64 n.links, .int .i64 n.ta, .int .i64 n.tb, .int .i64 n.tc, .string n.target, .string nm, .string lt] 173) = w1 at HB0 HX0 ⊢
  generalize w.heap.size = B0 at HX0 ⊢
  have k13 : w1.cell? ⟨B0, 13, none⟩ = some (.string nm) := by rw [cell_of_row _ _ _ _ _ _ HX0.out]; rfl
  go_wp2_with fail
  refine (HQ.out _ (by with_reducible exact HB0.out)).mono ?_
  rintro e w2 ⟨rfl, hb2⟩
  have HX2 := Lib.hid ((hb2.block _ (heap_lt HX0.out)).trans HX0.out)
  have HB2 := Lib.hid (below_two HB0.out hb2)
  clear hb2 k13
  have k2 : w2.cell? ⟨B0, 2, none⟩ = some (.int .i64 n.kind) := by rw [cell_of_row _ _ _ _ _ _ HX2.out]; rfl
  have k14 : w2.cell? ⟨B0, 14, none⟩ = some (.string lt) := by rw [cell_of_row _ _ _ _ _ _ HX2.out]; rfl
  by_cases h3 : n.kind = 3
  · have d3 : (n.kind == 3) = true := beq_iff_eq.2 h3
    have hR := HR.out
    rw [if_pos h3] at hR
    clear h3 HR
    go_wp2_with fail
    refine (HQ2.out _ (by with_reducible exact HB2.out)).mono ?_
    rintro e w3 ⟨rfl, hb3⟩
    have HB3 := Lib.hid (below_two HB2.out hb3)
    clear hb3 k2 k14
    obtain ⟨A, hA⟩ : ∃ A, (⟨#[32, 45, 62, 32]⟩ : ByteArray) ++ q2 = A := ⟨_, rfl⟩
    have hAs : A.size = 4 + q2.size := by rw [← hA, ByteArray.size_append]; rfl
    have ha1 := run_string_add_sum (P := Tryz.prog) (w := w3) (⟨#[32, 45, 62, 32]⟩ : ByteArray) q2 (by show 4 + q2.size ≤ _; omega)
    have ha2 := run_string_add_sum (P := Tryz.prog) (w := w3) q1 A (by omega)
    rw [hA] at ha1 hR
    clear hA
    go_wp2_with fail
    go_ret
    exact ⟨by rw [hR]; rfl, HB3.out⟩
  · have d3 : (n.kind == 3) = false := beq_eq_false_iff_ne.2 h3
    have hR := HR.out
    rw [if_neg h3] at hR
    clear h3 HR
    go_wp2_with fail
    go_ret
    exact ⟨by rw [hR]; rfl, HB2.out⟩

theorem ne_of (c k : UInt8) (n : Nat) (hk : k.toNat = n) (h : c ≠ k) : ((c.toNat : Int) == (n : Int)) = false := by
  rw [beq_eq_false_iff_ne]
  intro e
  exact h (UInt8.toNat_inj.1 (by omega))
-- TOLD
set_option maxRecDepth 100000 in
set_option maxHeartbeats 16000000 in
theorem told_any (n : P.Nv) (nm lt : ByteArray) (qf : ByteArray → ByteArray) (dir : ByteArray) (hz : 1 < dir.size) (c : UInt8) (hc : dir[1]'hz = c) (w : World) (ht : FTab w) (hN : NumJ n) (hq : c = 78 → QJ qf w) (hn : nm.size ≤ 60000) (hl : lt.size ≤ 60000) :
    Calls Tryz.prog 142 #[subV n nm lt, .string dir] w fun e w' => e = .returned (.string (txt ((oneJ n nm.data.toList (quotB qf n.kind nm lt).data.toList c).getD dir.data.toList))) ∧ Below w.heap.size w w' := by
  have NN := Lib.hid hN
  have hm0 := hN.m0
  have hm1 := hN.m1
  have HDec := Lib.hid (fun (x : Int) (hx : I64 x) (W : World) (hb : Below w.heap.size w W) => N.dec_any x W hx.1 hx.2 (ht.n.keep hb))
  have HOct := Lib.hid (fun (W : World) (hb : Below w.heap.size w W) => N.oct_any n.mode W hm0 (by omega) (ht.z.keep hb))
  have HTx := Lib.hid (fun (W : World) (hb : Below w.heap.size w W) => P.text_any n W (ht.p.keep hb))
  have HWh := Lib.hid (fun (W : World) => what_any n W)
  have HQd := Lib.hid (fun (h : c = 78) (W : World) (hb : Below w.heap.size w W) => quoted_any n nm lt qf W ((hq h).keep hb) hn hl)
  clear hN ht hq
  obtain ⟨QT, hQT⟩ : ∃ QT, quotB qf n.kind nm lt = QT := ⟨_, rfl⟩
  rw [hQT] at HQd ⊢
  clear hQT
  obtain ⟨R, hR⟩ : ∃ R, txt ((oneJ n nm.data.toList QT.data.toList c).getD dir.data.toList) = R := ⟨_, rfl⟩
  have HR := Lib.hid hR
  rw [hR]
  clear hR
  unfold P.nodeV at HTx HWh
  unfold subV subC at HQd ⊢
  go_enter Tryz.func142, Tryz.ntmps142
  go_upto_region 1 with fail
  obtain ⟨B0, hB0⟩ : ∃ B0, w.heap.size = B0 := ⟨_, rfl⟩
  obtain ⟨w1, hw1⟩ : ∃ w1, w.alloc (.cells #[.int .i64 n.dev, .int .i64 n.ino, .int .i64 n.kind, .int .i64 n.mode, .int .i64 n.uid, .int .i64 n.gid, .int .i64 n.size, .int .i64 n.blocks, .int .i64 n.links, .int .i64 n.ta, .int .i64 n.tb, .int .i64 n.tc, .string n.target, .string nm, .string lt] 173) = w1 := ⟨_, rfl⟩
  have HB1 := Lib.hid (show Below w.heap.size w w1 from by rw [← hw1]; exact (Below.refl _ _).alloc (Nat.le_refl _) _)
  have HX1 := Lib.hid (show w1.heap[B0]? = some (.cells #[.int .i64 n.dev, .int .i64 n.ino, .int .i64 n.kind, .int .i64 n.mode, .int .i64 n.uid, .int .i64 n.gid, .int .i64 n.size, .int .i64 n.blocks, .int .i64 n.links, .int .i64 n.ta, .int .i64 n.tb, .int .i64 n.tc, .string n.target, .string nm, .string lt] 173) from by rw [← hw1, ← hB0]; exact heap_alloc_new _ _)
  rw [hw1, hB0]
  clear hw1 hB0
  have HRg := Lib.hid (show w1.rangeAt B0 0 (ndC n) from range_mid (xs := []) (ys := [.string nm, .string lt]) HX1.out)
  unfold ndC at HRg
  go_upto_region 2 with (first
    | (refine wpList_load_mid rfl 66 (.tmp 6) rfl B0 0 rfl _ _ HRg.out Tryz.underlying66 rfl sizeNd ?_)
    | (refine wpList_store_row rfl 66 (.tmp 5) (.tmp 7) rfl w1.heap.size #[.int .i64 n.dev, .int .i64 n.ino, .int .i64 n.kind, .int .i64 n.mode, .int .i64 n.uid, .int .i64 n.gid, .int .i64 n.size, .int .i64 n.blocks, .int .i64 n.links, .int .i64 n.ta, .int .i64 n.tb, .int .i64 n.tc, .string n.target] rfl rfl 66 _ (heap_alloc_new _ _) sizeNd rfl (ndC_one n) ?_; rw [World.setRow_alloc_new]))
  have HX2 := Lib.hid (heap_alloc_new w1 (.cells #[.int .i64 n.dev, .int .i64 n.ino, .int .i64 n.kind, .int .i64 n.mode, .int .i64 n.uid, .int .i64 n.gid, .int .i64 n.size, .int .i64 n.blocks, .int .i64 n.links, .int .i64 n.ta, .int .i64 n.tb, .int .i64 n.tc, .string n.target] 66))
  have HB2 := Lib.hid (show Below w.heap.size w (w1.alloc (.cells #[.int .i64 n.dev, .int .i64 n.ino, .int .i64 n.kind, .int .i64 n.mode, .int .i64 n.uid, .int .i64 n.gid, .int .i64 n.size, .int .i64 n.blocks, .int .i64 n.links, .int .i64 n.ta, .int .i64 n.tb, .int .i64 n.tc, .string n.target] 66)) from HB1.out.alloc HB1.out.size _)
  have HX3 := Lib.hid ((heap_alloc_old w1 (.cells #[.int .i64 n.dev, .int .i64 n.ino, .int .i64 n.kind, .int .i64 n.mode, .int .i64 n.uid, .int .i64 n.gid, .int .i64 n.size, .int .i64 n.blocks, .int .i64 n.links, .int .i64 n.ta, .int .i64 n.tb, .int .i64 n.tc, .string n.target] 66) (heap_lt HX1.out)).trans HX1.out)
  generalize w1.alloc (.cells #[.int .i64 n.dev, .int .i64 n.ino, .int .i64 n.kind, .int .i64 n.mode, .int .i64 n.uid, .int .i64 n.gid, .int .i64 n.size, .int .i64 n.blocks, .int .i64 n.links, .int .i64 n.ta, .int .i64 n.tb, .int .i64 n.tc, .string n.target] 66) = w2 at HX2 HB2 HX3 ⊢
  generalize w1.heap.size = B1 at HX2 ⊢
  clear HRg HX1 HB1
  by_cases e110 : c = 110
  · have hcn : (dir[1]'hz).toNat = 110 := by rw [hc, e110]; rfl
    have hRR : R = nm := by rw [← HR.out, e110]; exact txt_of nm
    have k13 : w2.cell? ⟨B0, 13, none⟩ = some (.string nm) := by rw [cell_of_row _ _ _ _ _ _ HX3.out]; rfl
    go_wp2_with fail
    go_ret
    exact ⟨by rw [hRR]; rfl, HB2.out⟩
  by_cases e78 : c = 78
  · have hcn : (dir[1]'hz).toNat = 78 := by rw [hc, e78]; rfl
    have hRR : R = QT := by rw [← HR.out, e78]; exact txt_of QT
    go_wp2_with (refine wpList_load_row rfl 173 (.tmp 2) rfl B0 rfl 173 _ (0, 0) _ HX3.out Tryz.underlying173 rfl sizeSub ?_)
    refine (HQd.out e78 _ (by with_reducible exact HB2.out)).mono ?_
    rintro e w3 ⟨rfl, hb3⟩
    have HB3 := Lib.hid (below_two HB2.out hb3)
    clear hb3
    go_wp2_with fail
    go_ret
    exact ⟨by rw [hRR]; rfl, HB3.out⟩
  by_cases e115 : c = 115
  · have hcn : (dir[1]'hz).toNat = 115 := by rw [hc, e115]; rfl
    have hRR : R = txt (Lib.itoa n.size) := by rw [← HR.out, e115]; rfl
    have kk : w2.cell? ⟨B1, 6, none⟩ = some (.int .i64 n.size) := by rw [cell_of_row _ _ _ _ _ _ HX2.out]; rfl
    go_wp2_with fail
    refine (HDec.out n.size NN.out.size _ (by with_reducible exact HB2.out)).mono ?_
    rintro e w3 ⟨rfl, hb3⟩
    have HB3 := Lib.hid (below_two HB2.out hb3)
    clear hb3
    go_wp2_with fail
    go_ret
    exact ⟨by rw [hRR]; rfl, HB3.out⟩
  by_cases e98 : c = 98
  · have hcn : (dir[1]'hz).toNat = 98 := by rw [hc, e98]; rfl
    have hRR : R = txt (Lib.itoa n.blocks) := by rw [← HR.out, e98]; rfl
    have kk : w2.cell? ⟨B1, 7, none⟩ = some (.int .i64 n.blocks) := by rw [cell_of_row _ _ _ _ _ _ HX2.out]; rfl
    go_wp2_with fail
    refine (HDec.out n.blocks NN.out.blk _ (by with_reducible exact HB2.out)).mono ?_
    rintro e w3 ⟨rfl, hb3⟩
    have HB3 := Lib.hid (below_two HB2.out hb3)
    clear hb3
    go_wp2_with fail
    go_ret
    exact ⟨by rw [hRR]; rfl, HB3.out⟩
  by_cases e97 : c = 97
  · have hcn : (dir[1]'hz).toNat = 97 := by rw [hc, e97]; rfl
    have hRR : R = txt (octL n.mode) := by rw [← HR.out, e97]; rfl
    have kk : w2.cell? ⟨B1, 3, none⟩ = some (.int .i64 n.mode) := by rw [cell_of_row _ _ _ _ _ _ HX2.out]; rfl
    go_wp2_with fail
    refine (HOct.out _ (by with_reducible exact HB2.out)).mono ?_
    rintro e w3 ⟨rfl, hb3⟩
    have HB3 := Lib.hid (below_two HB2.out hb3)
    clear hb3
    go_wp2_with fail
    go_ret
    exact ⟨by rw [hRR]; rfl, HB3.out⟩
  by_cases e65 : c = 65
  · have hcn : (dir[1]'hz).toNat = 65 := by rw [hc, e65]; rfl
    have hRR : R = txt (P.textP n.kind n.mode) := by rw [← HR.out, e65]; rfl
    go_wp2_with (refine wpList_load_row rfl 66 (.tmp 5) rfl B1 rfl 66 _ (0, 0) _ HX2.out Tryz.underlying66 rfl sizeNd ?_)
    refine (HTx.out _ (by with_reducible exact HB2.out)).mono ?_
    rintro e w3 ⟨rfl, hb3⟩
    have HB3 := Lib.hid (below_two HB2.out hb3)
    clear hb3
    go_wp2_with fail
    go_ret
    exact ⟨by rw [hRR]; rfl, HB3.out⟩
  by_cases e117 : c = 117
  · have hcn : (dir[1]'hz).toNat = 117 := by rw [hc, e117]; rfl
    have hRR : R = txt (Lib.itoa n.uid) := by rw [← HR.out, e117]; rfl
    have kk : w2.cell? ⟨B1, 4, none⟩ = some (.int .i64 n.uid) := by rw [cell_of_row _ _ _ _ _ _ HX2.out]; rfl
    go_wp2_with fail
    refine (HDec.out n.uid NN.out.uid _ (by with_reducible exact HB2.out)).mono ?_
    rintro e w3 ⟨rfl, hb3⟩
    have HB3 := Lib.hid (below_two HB2.out hb3)
    clear hb3
    go_wp2_with fail
    go_ret
    exact ⟨by rw [hRR]; rfl, HB3.out⟩
  by_cases e103 : c = 103
  · have hcn : (dir[1]'hz).toNat = 103 := by rw [hc, e103]; rfl
    have hRR : R = txt (Lib.itoa n.gid) := by rw [← HR.out, e103]; rfl
    have kk : w2.cell? ⟨B1, 5, none⟩ = some (.int .i64 n.gid) := by rw [cell_of_row _ _ _ _ _ _ HX2.out]; rfl
    go_wp2_with fail
    refine (HDec.out n.gid NN.out.gid _ (by with_reducible exact HB2.out)).mono ?_
    rintro e w3 ⟨rfl, hb3⟩
    have HB3 := Lib.hid (below_two HB2.out hb3)
    clear hb3
    go_wp2_with fail
    go_ret
    exact ⟨by rw [hRR]; rfl, HB3.out⟩
  by_cases e105 : c = 105
  · have hcn : (dir[1]'hz).toNat = 105 := by rw [hc, e105]; rfl
    have hRR : R = txt (Lib.itoa n.ino) := by rw [← HR.out, e105]; rfl
    have kk : w2.cell? ⟨B1, 1, none⟩ = some (.int .i64 n.ino) := by rw [cell_of_row _ _ _ _ _ _ HX2.out]; rfl
    go_wp2_with fail
    refine (HDec.out n.ino NN.out.ino _ (by with_reducible exact HB2.out)).mono ?_
    rintro e w3 ⟨rfl, hb3⟩
    have HB3 := Lib.hid (below_two HB2.out hb3)
    clear hb3
    go_wp2_with fail
    go_ret
    exact ⟨by rw [hRR]; rfl, HB3.out⟩
  by_cases e100 : c = 100
  · have hcn : (dir[1]'hz).toNat = 100 := by rw [hc, e100]; rfl
    have hRR : R = txt (Lib.itoa n.dev) := by rw [← HR.out, e100]; rfl
    have kk : w2.cell? ⟨B1, 0, none⟩ = some (.int .i64 n.dev) := by rw [cell_of_row _ _ _ _ _ _ HX2.out]; rfl
    go_wp2_with fail
    refine (HDec.out n.dev NN.out.dev _ (by with_reducible exact HB2.out)).mono ?_
    rintro e w3 ⟨rfl, hb3⟩
    have HB3 := Lib.hid (below_two HB2.out hb3)
    clear hb3
    go_wp2_with fail
    go_ret
    exact ⟨by rw [hRR]; rfl, HB3.out⟩
  by_cases e104 : c = 104
  · have hcn : (dir[1]'hz).toNat = 104 := by rw [hc, e104]; rfl
    have hRR : R = txt (Lib.itoa n.links) := by rw [← HR.out, e104]; rfl
    have kk : w2.cell? ⟨B1, 8, none⟩ = some (.int .i64 n.links) := by rw [cell_of_row _ _ _ _ _ _ HX2.out]; rfl
    go_wp2_with fail
    refine (HDec.out n.links NN.out.lnk _ (by with_reducible exact HB2.out)).mono ?_
    rintro e w3 ⟨rfl, hb3⟩
    have HB3 := Lib.hid (below_two HB2.out hb3)
    clear hb3
    go_wp2_with fail
    go_ret
    exact ⟨by rw [hRR]; rfl, HB3.out⟩
  by_cases e70 : c = 70
  · have hcn : (dir[1]'hz).toNat = 70 := by rw [hc, e70]; rfl
    have hRR : R = txt (whatL n) := by rw [← HR.out, e70]; rfl
    go_wp2_with (refine wpList_load_row rfl 66 (.tmp 5) rfl B1 rfl 66 _ (0, 0) _ HX2.out Tryz.underlying66 rfl sizeNd ?_)
    refine (HWh.out _).mono ?_
    rintro e w3 ⟨rfl, hb3⟩
    have HB3 := Lib.hid (below_two HB2.out hb3)
    clear hb3
    go_wp2_with fail
    go_ret
    exact ⟨by rw [hRR]; rfl, HB3.out⟩
  by_cases e88 : c = 88
  · have hcn : (dir[1]'hz).toNat = 88 := by rw [hc, e88]; rfl
    have hRR : R = txt (Lib.itoa n.ta) := by rw [← HR.out, e88]; rfl
    have kk : w2.cell? ⟨B1, 9, none⟩ = some (.int .i64 n.ta) := by rw [cell_of_row _ _ _ _ _ _ HX2.out]; rfl
    go_wp2_with fail
    refine (HDec.out n.ta NN.out.ta _ (by with_reducible exact HB2.out)).mono ?_
    rintro e w3 ⟨rfl, hb3⟩
    have HB3 := Lib.hid (below_two HB2.out hb3)
    clear hb3
    go_wp2_with fail
    go_ret
    exact ⟨by rw [hRR]; rfl, HB3.out⟩
  by_cases e89 : c = 89
  · have hcn : (dir[1]'hz).toNat = 89 := by rw [hc, e89]; rfl
    have hRR : R = txt (Lib.itoa n.tb) := by rw [← HR.out, e89]; rfl
    have kk : w2.cell? ⟨B1, 10, none⟩ = some (.int .i64 n.tb) := by rw [cell_of_row _ _ _ _ _ _ HX2.out]; rfl
    go_wp2_with fail
    refine (HDec.out n.tb NN.out.tb _ (by with_reducible exact HB2.out)).mono ?_
    rintro e w3 ⟨rfl, hb3⟩
    have HB3 := Lib.hid (below_two HB2.out hb3)
    clear hb3
    go_wp2_with fail
    go_ret
    exact ⟨by rw [hRR]; rfl, HB3.out⟩
  by_cases e90 : c = 90
  · have hcn : (dir[1]'hz).toNat = 90 := by rw [hc, e90]; rfl
    have hRR : R = txt (Lib.itoa n.tc) := by rw [← HR.out, e90]; rfl
    have kk : w2.cell? ⟨B1, 11, none⟩ = some (.int .i64 n.tc) := by rw [cell_of_row _ _ _ _ _ _ HX2.out]; rfl
    go_wp2_with fail
    refine (HDec.out n.tc NN.out.tc _ (by with_reducible exact HB2.out)).mono ?_
    rintro e w3 ⟨rfl, hb3⟩
    have HB3 := Lib.hid (below_two HB2.out hb3)
    clear hb3
    go_wp2_with fail
    go_ret
    exact ⟨by rw [hRR]; rfl, HB3.out⟩
  by_cases e37 : c = 37
  · have hcn : (dir[1]'hz).toNat = 37 := by rw [hc, e37]; rfl
    have hRR : R = ⟨#[37]⟩ := by rw [← HR.out, e37]; rfl
    go_wp2_with fail
    go_ret
    exact ⟨by rw [hRR]; rfl, HB2.out⟩
  have hRR : R = dir := by
    have e0 : oneJ n nm.data.toList QT.data.toList c = none := by
      unfold oneJ
      rw [if_neg e110, if_neg e78, if_neg e115, if_neg e98, if_neg e97, if_neg e65, if_neg e117, if_neg e103, if_neg e105, if_neg e100, if_neg e104, if_neg e70, if_neg e88, if_neg e89, if_neg e90, if_neg e37]
    rw [← HR.out, e0]
    exact txt_of dir
  have hcn : (dir[1]'hz).toNat = c.toNat := by rw [hc]
  have d110 := ne_of c 110 110 rfl e110
  have d78 := ne_of c 78 78 rfl e78
  have d115 := ne_of c 115 115 rfl e115
  have d98 := ne_of c 98 98 rfl e98
  have d97 := ne_of c 97 97 rfl e97
  have d65 := ne_of c 65 65 rfl e65
  have d117 := ne_of c 117 117 rfl e117
  have d103 := ne_of c 103 103 rfl e103
  have d105 := ne_of c 105 105 rfl e105
  have d100 := ne_of c 100 100 rfl e100
  have d104 := ne_of c 104 104 rfl e104
  have d70 := ne_of c 70 70 rfl e70
  have d88 := ne_of c 88 88 rfl e88
  have d89 := ne_of c 89 89 rfl e89
  have d90 := ne_of c 90 90 rfl e90
  have d37 := ne_of c 37 37 rfl e37
  clear e110 e78 e115 e98 e97 e65 e117 e103 e105 e100 e104 e70 e88 e89 e90 e37
  go_wp2_with fail
  go_ret
  exact ⟨by rw [hRR]; rfl, HB2.out⟩
-- TOLD END
end Go.Proofs.YtknfhphhcnbndaaGreatDoor.J
