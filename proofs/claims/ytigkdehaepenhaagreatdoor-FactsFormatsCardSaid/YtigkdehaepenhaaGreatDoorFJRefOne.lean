/-
  What the reference's One returns: what a directive tells of a node. Conditions: what its Node, Link and Quote return is known; texts of at most 60000 bytes.
-/
import Derived.Test.YtigkdehaepenhaaGreatDoorFJTold
import Derived.Test.YtigkdehaepenhaaGreatDoorFPRefText
set_option linter.unusedVariables false
set_option linter.unusedSimpArgs false
namespace Go.Proofs.YtigkdehaepenhaaGreatDoor.J
open Go.Proofs.YtigkdehaepenhaaGreatDoor.B
open Go.RowKit

def lettersJ : By := [115, 98, 117, 103, 105, 100, 104, 88, 89, 90]
def valsJ (n : P.Nv) : Nat → Int
  | 0 => n.size
  | 1 => n.blocks
  | 2 => n.uid
  | 3 => n.gid
  | 4 => n.ino
  | 5 => n.dev
  | 6 => n.links
  | 7 => n.ta
  | 8 => n.tb
  | _ => n.tc
theorem ten_cases {k : Nat} (h : k < 10) : k = 0 ∨ k = 1 ∨ k = 2 ∨ k = 3 ∨ k = 4 ∨ k = 5 ∨ k = 6 ∨ k = 7 ∨ k = 8 ∨ k = 9 := by omega
theorem let_one (n : P.Nv) (nm qt : By) {k : Nat} (h : k < 10) {c : UInt8} (hc : lettersJ[k]? = some c) : oneJ n nm qt c = some (Lib.itoa (valsJ n k)) := by
  rcases ten_cases h with rfl | rfl | rfl | rfl | rfl | rfl | rfl | rfl | rfl | rfl <;> (obtain rfl := Option.some.inj hc; rfl)
theorem vals_i64 {n : P.Nv} (h : NumJ n) {k : Nat} (hk : k < 10) : I64 (valsJ n k) := by
  rcases ten_cases hk with rfl | rfl | rfl | rfl | rfl | rfl | rfl | rfl | rfl | rfl
  · exact h.size
  · exact h.blk
  · exact h.uid
  · exact h.gid
  · exact h.ino
  · exact h.dev
  · exact h.lnk
  · exact h.ta
  · exact h.tb
  · exact h.tc
theorem not_let {c : UInt8} (h : ∀ k, k < 10 → lettersJ[k]? ≠ some c) : c ≠ 115 ∧ c ≠ 98 ∧ c ≠ 117 ∧ c ≠ 103 ∧ c ≠ 105 ∧ c ≠ 100 ∧ c ≠ 104 ∧ c ≠ 88 ∧ c ≠ 89 ∧ c ≠ 90 :=
  ⟨fun e => h 0 (by decide) (by rw [e]; rfl), fun e => h 1 (by decide) (by rw [e]; rfl), fun e => h 2 (by decide) (by rw [e]; rfl), fun e => h 3 (by decide) (by rw [e]; rfl), fun e => h 4 (by decide) (by rw [e]; rfl), fun e => h 5 (by decide) (by rw [e]; rfl), fun e => h 6 (by decide) (by rw [e]; rfl), fun e => h 7 (by decide) (by rw [e]; rfl), fun e => h 8 (by decide) (by rw [e]; rfl), fun e => h 9 (by decide) (by rw [e]; rfl)⟩
/-- What a directive tells, that is none of the ten. -/
theorem one_rest (n : P.Nv) (nm qt : By) {c : UInt8} (h : ∀ k, k < 10 → lettersJ[k]? ≠ some c) : oneJ n nm qt c = if c = 37 then some [37] else if c = 110 then some nm else if c = 97 then some (octL n.mode) else if c = 65 then some (P.textP n.kind n.mode) else if c = 78 then some qt else if c = 70 then some (whatL n) else none := by
  obtain ⟨a1, a2, a3, a4, a5, a6, a7, a8, a9, b1⟩ := not_let h
  unfold oneJ
  rw [if_neg a1, if_neg a2, if_neg a3, if_neg a4, if_neg a5, if_neg a6, if_neg a7, if_neg a8, if_neg a9, if_neg b1]
  by_cases e1 : c = 37
  · subst e1; rfl
  by_cases e2 : c = 110
  · subst e2; rfl
  by_cases e3 : c = 97
  · subst e3; rfl
  by_cases e4 : c = 65
  · subst e4; rfl
  by_cases e5 : c = 78
  · subst e5; rfl
  by_cases e6 : c = 70
  · subst e6; rfl
  simp only [e1, e2, e3, e4, e5, e6, if_false]
theorem sizeFs6 : (Tryz.prog.info? 32).map (·.size) = some 6 := by kernel_rfl
theorem arr10 (b c : Nat) (w : World) (hc : c < 10) : (Instr.indexAt 114 (.pointer (some ⟨b, 0, none⟩)) (.int .i64 (c : Int))).run Tryz.prog w = .ok (.pointer (some ⟨b, c, none⟩)) w := by
  have hu : Tryz.prog.underlying 114 = some (.array (Tryz.prog.arrayLen 114) (Tryz.prog.elem 114)) := by kernel_rfl
  have hl : Tryz.prog.arrayLen 114 = 10 := by kernel_rfl
  have hs : ∀ W : World, (sizeOf (Tryz.prog.elem 114)).run Tryz.prog W = .ok 1 W := fun W => by kernel_rfl
  rw [run_indexAt_array _ _ _ _ _ hu, hl, if_pos ⟨by omega, by omega⟩, hs]
  show Result.ok _ w = _
  rw [Addr.add_mid, Int.toNat_natCast, Nat.mul_one, Nat.zero_add]
theorem size10 : (Tryz.prog.info? 114).map (·.size) = some 10 := by kernel_rfl
theorem what1 : ∀ w : World, (Instr.index 120 (.agg #[.string ⟨#[]⟩, .string ⟨#[114, 101, 103, 117, 108, 97, 114, 32, 102, 105, 108, 101]⟩, .string ⟨#[100, 105, 114, 101, 99, 116, 111, 114, 121]⟩, .string ⟨#[115, 121, 109, 98, 111, 108, 105, 99, 32, 108, 105, 110, 107]⟩]) (.int .i64 1)).run Tryz.prog w = .ok (.string ⟨#[114, 101, 103, 117, 108, 97, 114, 32, 102, 105, 108, 101]⟩) w := fun _ => by kernel_rfl
theorem what2 : ∀ w : World, (Instr.index 120 (.agg #[.string ⟨#[]⟩, .string ⟨#[114, 101, 103, 117, 108, 97, 114, 32, 102, 105, 108, 101]⟩, .string ⟨#[100, 105, 114, 101, 99, 116, 111, 114, 121]⟩, .string ⟨#[115, 121, 109, 98, 111, 108, 105, 99, 32, 108, 105, 110, 107]⟩]) (.int .i64 2)).run Tryz.prog w = .ok (.string ⟨#[100, 105, 114, 101, 99, 116, 111, 114, 121]⟩) w := fun _ => by kernel_rfl
theorem what3 : ∀ w : World, (Instr.index 120 (.agg #[.string ⟨#[]⟩, .string ⟨#[114, 101, 103, 117, 108, 97, 114, 32, 102, 105, 108, 101]⟩, .string ⟨#[100, 105, 114, 101, 99, 116, 111, 114, 121]⟩, .string ⟨#[115, 121, 109, 98, 111, 108, 105, 99, 32, 108, 105, 110, 107]⟩]) (.int .i64 3)).run Tryz.prog w = .ok (.string ⟨#[115, 121, 109, 98, 111, 108, 105, 99, 32, 108, 105, 110, 107]⟩) w := fun _ => by kernel_rfl
def oneV : Option By → Value
  | some s => .tuple #[.string (txt s), .bool true]
  | none => .tuple #[.string ⟨#[]⟩, .bool false]
def OneRel (c : UInt8) (w3 : World) (v : Value) (wr : World) : Prop := ∃ k : Nat, k ≤ 10 ∧ v = .int .i64 (k : Int) ∧ Hid (∀ j, j < k → lettersJ[j]? ≠ some c) ∧ wr = w3

set_option maxRecDepth 100000 in
set_option maxHeartbeats 16000000 in
theorem refOne_any (fn fl fc fd fa ff : Value) (id le : Int) (n : P.Nv) (nm lt : ByteArray) (c : UInt8) (qf : ByteArray → ByteArray) (w : World)
    (hone : (#[fn, fl, fc, fd, fa, ff] : Array Value).all (·.oneCell') = true)
    (HN : ∀ X : World, Below w.heap.size w X → Calls Tryz.prog 49 #[.agg #[fn, fl, fc, fd, fa, ff], .int .i64 id] X fun e w' => e = .returned (P.nodeV n) ∧ Below X.heap.size X w')
    (HL : ∀ X : World, Below w.heap.size w X → Calls Tryz.prog 54 #[.agg #[fn, fl, fc, fd, fa, ff], .int .i64 id] X fun e w' => e = .returned (.tuple #[.string lt, .int .i64 le]) ∧ Below X.heap.size X w')
    (HQ : ∀ (s : ByteArray) (X : World), s.size ≤ 60000 → Calls Tryz.prog 53 #[.int .i64 1, .string s] X fun e w' => e = .returned (.string (qf s)) ∧ Below X.heap.size X w')
    (hqs : ∀ s : ByteArray, s.size ≤ 60000 → (qf s).size ≤ 7 * s.size + 2) (hN : NumJ n) (hn : nm.size ≤ 60000) (hl : lt.size ≤ 60000) :
    Calls Tryz.prog 24 #[.agg #[fn, fl, fc, fd, fa, ff], .int .i64 id, .string nm, .int .u8 (c.toNat : Int)] w fun e w' => e = .returned (oneV (oneJ n nm.data.toList (quotB qf n.kind nm lt).data.toList c)) ∧ Below w.heap.size w w' := by
  have NN := Lib.hid hN
  have hm0 := hN.m0
  have hm1 := hN.m1
  have hkd := hN.kind
  have HNd := Lib.hid HN
  have HLk := Lib.hid HL
  have HQn := Lib.hid (fun X => HQ nm X hn)
  have HQl := Lib.hid (fun X => HQ lt X hl)
  have HS1 := Lib.hid (show (qf nm).size ≤ 420002 from by have := hqs nm hn; omega)
  have HS2 := Lib.hid (show (qf lt).size ≤ 420002 from by have := hqs lt hl; omega)
  have HDec := Lib.hid (fun (x : Int) (hx : I64 x) (W : World) => (N.refDec_any x W hx.1 hx.2).mono (R' := fun e w' => e = .returned (.string (txt (Lib.itoa x))) ∧ Below W.heap.size W w') (by rintro e w' ⟨rfl, k, rfl⟩; exact ⟨rfl, below_drewNb (Below.refl _ _)⟩))
  have HOct := Lib.hid (fun (W : World) => (N.refDigits_any n.mode 8 W hm0 (by omega) (by decide) (by decide)).mono (R' := fun e w' => e = .returned (.string (txt (octL n.mode))) ∧ Below W.heap.size W w') (by rintro e w' ⟨rfl, k, rfl⟩; exact ⟨rfl, below_drewNb (Below.refl _ _)⟩))
  have HTx := Lib.hid (fun (W : World) => P.refText_any n W hm0 hm1)
  have HOne := Lib.hid hone
  have HRst := Lib.hid (fun h => one_rest n nm.data.toList (quotB qf n.kind nm lt).data.toList (c := c) h)
  have HLet := Lib.hid (fun (k : Nat) (h : k < 10) (hc : lettersJ[k]? = some c) => let_one n nm.data.toList (quotB qf n.kind nm lt).data.toList h hc)
  have HQd := Lib.hid (show quotB qf n.kind nm lt = if n.kind = 3 then qf nm ++ (arrow ++ qf lt) else qf nm from rfl)
  unfold arrow at HQd
  clear HN HL HQ hqs hN hn hl hone
  obtain ⟨QT, hQT⟩ : ∃ QT, quotB qf n.kind nm lt = QT := ⟨_, rfl⟩
  rw [hQT] at HQd HRst HLet ⊢
  clear hQT
  generalize qf nm = q1 at HQn HS1 HQd
  generalize qf lt = q2 at HQl HS2 HQd
  have hs1 := HS1.out
  have hs2 := HS2.out
  obtain ⟨R, hR⟩ : ∃ R, oneJ n nm.data.toList QT.data.toList c = R := ⟨_, rfl⟩
  rw [hR] at HRst HLet ⊢
  clear hR
  unfold P.nodeV at HNd HTx
  go_enter Tryz.func24, Tryz.ntmps24
  go_upto_region 1 with fail
  obtain ⟨B0, hB0⟩ : ∃ B0, w.heap.size = B0 := ⟨_, rfl⟩
  obtain ⟨w1, hw1⟩ : ∃ w1, w.alloc (.cells #[fn, fl, fc, fd, fa, ff] 32) = w1 := ⟨_, rfl⟩
  have HB1 := Lib.hid (show Below w.heap.size w w1 from by rw [← hw1]; exact (Below.refl _ _).alloc (Nat.le_refl _) _)
  have HX1 := Lib.hid (show w1.heap[B0]? = some (.cells #[fn, fl, fc, fd, fa, ff] 32) from by rw [← hw1, ← hB0]; exact heap_alloc_new _ _)
  rw [hw1, hB0]
  clear hw1 hB0
  go_wp2_with (refine wpList_load_row rfl 32 (.tmp 4) rfl B0 rfl 32 _ (0, 0) _ HX1.out Tryz.underlying32 rfl sizeFs6 ?_)
  refine (HNd.out _ (by with_reducible exact HB1.out)).mono ?_
  rintro e w2 ⟨rfl, hb2⟩
  have HB2 := Lib.hid (below_two HB1.out hb2)
  have HX2 := Lib.hid ((hb2.block _ (heap_lt HX1.out)).trans HX1.out)
  clear hb2 HX1 HB1 HNd
  go_upto_region 2 with (refine wpList_store_row rfl 62 (.tmp 10) (.tmp 19) rfl w2.heap.size #[.int .i64 n.dev, .int .i64 n.ino, .int .i64 n.kind, .int .i64 n.mode, .int .i64 n.uid, .int .i64 n.gid, .int .i64 n.size, .int .i64 n.blocks, .int .i64 n.links, .int .i64 n.ta, .int .i64 n.tb, .int .i64 n.tc, .string n.target] rfl rfl 62 _ (heap_alloc_new _ _) sizeNd rfl (ndC_one n) ?_; rw [World.setRow_alloc_new])
  have HX3 := Lib.hid (show (w2.alloc (.cells #[.int .i64 n.dev, .int .i64 n.ino, .int .i64 n.kind, .int .i64 n.mode, .int .i64 n.uid, .int .i64 n.gid, .int .i64 n.size, .int .i64 n.blocks, .int .i64 n.links, .int .i64 n.ta, .int .i64 n.tb, .int .i64 n.tc, .string n.target] 62)).heap[w2.heap.size]? = some (.cells #[.int .i64 n.dev, .int .i64 n.ino, .int .i64 n.kind, .int .i64 n.mode, .int .i64 n.uid, .int .i64 n.gid, .int .i64 n.size, .int .i64 n.blocks, .int .i64 n.links, .int .i64 n.ta, .int .i64 n.tb, .int .i64 n.tc, .string n.target] 62) ∧ (w2.alloc (.cells #[.int .i64 n.dev, .int .i64 n.ino, .int .i64 n.kind, .int .i64 n.mode, .int .i64 n.uid, .int .i64 n.gid, .int .i64 n.size, .int .i64 n.blocks, .int .i64 n.links, .int .i64 n.ta, .int .i64 n.tb, .int .i64 n.tc, .string n.target] 62)).heap[B0]? = some (.cells #[fn, fl, fc, fd, fa, ff] 32) from ⟨heap_alloc_new _ _, (heap_alloc_old _ _ (heap_lt HX2.out)).trans HX2.out⟩)
  have HB3 := Lib.hid (show Below w.heap.size w (w2.alloc (.cells #[.int .i64 n.dev, .int .i64 n.ino, .int .i64 n.kind, .int .i64 n.mode, .int .i64 n.uid, .int .i64 n.gid, .int .i64 n.size, .int .i64 n.blocks, .int .i64 n.links, .int .i64 n.ta, .int .i64 n.tb, .int .i64 n.tc, .string n.target] 62)) from HB2.out.alloc HB2.out.size _)
  generalize w2.alloc (.cells #[.int .i64 n.dev, .int .i64 n.ino, .int .i64 n.kind, .int .i64 n.mode, .int .i64 n.uid, .int .i64 n.gid, .int .i64 n.size, .int .i64 n.blocks, .int .i64 n.links, .int .i64 n.ta, .int .i64 n.tb, .int .i64 n.tc, .string n.target] 62) = w3 at HX3 HB3 ⊢
  generalize w2.heap.size = B3 at HX3 ⊢
  clear HX2 HB2
  have k0 : w3.cell? ⟨B3, 0, none⟩ = some (.int .i64 n.dev) := by rw [cell_of_row _ _ _ _ _ _ HX3.out.1]; rfl
  have k1 : w3.cell? ⟨B3, 1, none⟩ = some (.int .i64 n.ino) := by rw [cell_of_row _ _ _ _ _ _ HX3.out.1]; rfl
  have k4 : w3.cell? ⟨B3, 4, none⟩ = some (.int .i64 n.uid) := by rw [cell_of_row _ _ _ _ _ _ HX3.out.1]; rfl
  have k5 : w3.cell? ⟨B3, 5, none⟩ = some (.int .i64 n.gid) := by rw [cell_of_row _ _ _ _ _ _ HX3.out.1]; rfl
  have k6 : w3.cell? ⟨B3, 6, none⟩ = some (.int .i64 n.size) := by rw [cell_of_row _ _ _ _ _ _ HX3.out.1]; rfl
  have k7 : w3.cell? ⟨B3, 7, none⟩ = some (.int .i64 n.blocks) := by rw [cell_of_row _ _ _ _ _ _ HX3.out.1]; rfl
  have k8 : w3.cell? ⟨B3, 8, none⟩ = some (.int .i64 n.links) := by rw [cell_of_row _ _ _ _ _ _ HX3.out.1]; rfl
  have k9 : w3.cell? ⟨B3, 9, none⟩ = some (.int .i64 n.ta) := by rw [cell_of_row _ _ _ _ _ _ HX3.out.1]; rfl
  have k10 : w3.cell? ⟨B3, 10, none⟩ = some (.int .i64 n.tb) := by rw [cell_of_row _ _ _ _ _ _ HX3.out.1]; rfl
  have k11 : w3.cell? ⟨B3, 11, none⟩ = some (.int .i64 n.tc) := by rw [cell_of_row _ _ _ _ _ _ HX3.out.1]; rfl
  go_upto_region 3 with fail
  obtain ⟨L, hL⟩ : ∃ L, (⟨#[115, 98, 117, 103, 105, 100, 104, 88, 89, 90]⟩ : ByteArray) = L := ⟨_, rfl⟩
  have hLs : L.size = 10 := by rw [← hL]; rfl
  have HLl := Lib.hid (show L.data.toList = lettersJ from by rw [← hL]; rfl)
  rw [hL]
  clear hL
  go_upto_region 4 with (refine wpList_store_row rfl 114 (.tmp 12) (.tmp 43) rfl w3.heap.size #[.int .i64 n.size, .int .i64 n.blocks, .int .i64 n.uid, .int .i64 n.gid, .int .i64 n.ino, .int .i64 n.dev, .int .i64 n.links, .int .i64 n.ta, .int .i64 n.tb, .int .i64 n.tc] rfl rfl 114 _ (heap_alloc_new _ _) size10 rfl (by simp [Value.oneCell']) ?_; rw [World.setRow_alloc_new])
  have HX5 := Lib.hid (heap_alloc_new w3 (.cells #[.int .i64 n.size, .int .i64 n.blocks, .int .i64 n.uid, .int .i64 n.gid, .int .i64 n.ino, .int .i64 n.dev, .int .i64 n.links, .int .i64 n.ta, .int .i64 n.tb, .int .i64 n.tc] 114))
  have HA5 := Lib.hid (show Below w3.heap.size w3 (w3.alloc (.cells #[.int .i64 n.size, .int .i64 n.blocks, .int .i64 n.uid, .int .i64 n.gid, .int .i64 n.ino, .int .i64 n.dev, .int .i64 n.links, .int .i64 n.ta, .int .i64 n.tb, .int .i64 n.tc] 114)) from (Below.refl _ _).alloc (Nat.le_refl _) _)
  generalize w3.alloc (.cells #[.int .i64 n.size, .int .i64 n.blocks, .int .i64 n.uid, .int .i64 n.gid, .int .i64 n.ino, .int .i64 n.dev, .int .i64 n.links, .int .i64 n.ta, .int .i64 n.tb, .int .i64 n.tc] 114) = w5 at HX5 HA5 ⊢
  generalize w3.heap.size = B5 at HX5 ⊢
  have HB5 := Lib.hid (below_two HB3.out HA5.out)
  have HXn := Lib.hid ((HA5.out.block _ (heap_lt HX3.out.1)).trans HX3.out.1)
  have HXf := Lib.hid ((HA5.out.block _ (heap_lt HX3.out.2)).trans HX3.out.2)
  have HKv := Lib.hid (show ∀ k, k < 10 → w5.cell? ⟨B5, k, none⟩ = some (.int .i64 (valsJ n k)) from fun k hk => by
    rw [cell_of_row _ _ _ _ _ _ HX5.out]
    rcases ten_cases hk with rfl | rfl | rfl | rfl | rfl | rfl | rfl | rfl | rfl | rfl <;> rfl)
  clear HX3 HB3 HA5 HX5 k0 k1 k4 k5 k6 k7 k8 k9 k10 k11
  go_wp2_with fail
  go_loopw [13] (OneRel c w5) (fun v _ => 10 - (intOf v).toNat)
  case atStart => exact ⟨0, by omega, rfl, Lib.hid (fun j hj => by omega), rfl⟩
  case round =>
    obtain ⟨k, hk, rfl, HNo, rfl⟩ := hrel
    by_cases hlt : k < 10
    · have d0 : decide ((k : Int) < 10) = true := decide_eq_true (by omega)
      have hkL : k < L.size := by omega
      obtain ⟨x, hx⟩ : ∃ x, L[k]'hkL = x := ⟨_, rfl⟩
      have hxl : lettersJ[k]? = some x := by rw [← HLl.out, ← hx]; exact list_at hkL
      by_cases hxc : x = c
      · have d1 : ((x.toNat : Int) == (c.toNat : Int)) = true := beq_iff_eq.2 (by rw [hxc])
        have HRk := Lib.hid (HLet.out k hlt (by rw [hxl, hxc]))
        have kk := HKv.out k hlt
        have harr := fun w => arr10 B5 k w hlt
        have HDk := Lib.hid (fun W => HDec.out _ (vals_i64 NN.out hlt) W)
        generalize valsJ n k = v at HRk kk HDk
        clear hxl hxc HRst HLet HDec
        go_wp2_with fail
        refine (HDk.out _).mono ?_
        rintro e w6 ⟨rfl, hb6⟩
        have HB6 := Lib.hid (below_two HB5.out hb6)
        clear hb6
        go_wp2_with fail
        try rw [Exit.noGoto_ret]
        go_ret2
        exact ⟨by rw [HRk.out]; rfl, HB6.out⟩
      · have d1 : ((x.toNat : Int) == (c.toNat : Int)) = false := beq_eq_false_iff_ne.2 (fun e => hxc (UInt8.toNat_inj.1 (by omega)))
        have HNn := Lib.hid (show ∀ j, j < k + 1 → lettersJ[j]? ≠ some c from fun j hj => by
          rcases Nat.lt_or_ge j k with q | q
          · exact HNo.out j q
          · obtain rfl : j = k := by omega
            rw [hxl]
            exact fun e => hxc (Option.some.inj e))
        clear hxl hxc
        go_wp2_with fail
        go_roundw
        case rel => exact ⟨k + 1, by omega, by simp, HNn, rfl⟩
        case measure => simp [intOf]; omega
    · obtain rfl : k = 10 := by omega
      have d0 : decide (((10 : Nat) : Int) < 10) = false := by decide
      have HRr := Lib.hid (HRst.out HNo.out)
      clear HRst HLet HNo
      by_cases e37 : c = 37
      · have hcn : (c.toNat : Int) = 37 := by rw [e37]; rfl
        have hRR : R = some [37] := by rw [HRr.out, if_pos e37]
        go_wp2_with fail
        try rw [Exit.noGoto_ret]
        go_ret2
        exact ⟨by rw [hRR]; rfl, HB5.out⟩
      by_cases e110 : c = 110
      · have hcn : (c.toNat : Int) = 110 := by rw [e110]; rfl
        have hRR : R = some nm.data.toList := by rw [HRr.out, if_neg e37, if_pos e110]
        go_wp2_with fail
        try rw [Exit.noGoto_ret]
        go_ret2
        exact ⟨by rw [hRR]; unfold oneV; dsimp only; rw [txt_of]; rfl, HB5.out⟩
      by_cases e97 : c = 97
      · have hcn : (c.toNat : Int) = 97 := by rw [e97]; rfl
        have hRR : R = some (octL n.mode) := by rw [HRr.out, if_neg e37, if_neg e110, if_pos e97]
        have kk : wr.cell? ⟨B3, 3, none⟩ = some (.int .i64 n.mode) := by rw [cell_of_row _ _ _ _ _ _ HXn.out]; rfl
        go_wp2_with fail
        refine (HOct.out _).mono ?_
        rintro e w6 ⟨rfl, hb6⟩
        have HB6 := Lib.hid (below_two HB5.out hb6)
        clear hb6
        go_wp2_with fail
        try rw [Exit.noGoto_ret]
        go_ret2
        exact ⟨by rw [hRR]; rfl, HB6.out⟩
      by_cases e65 : c = 65
      · have hcn : (c.toNat : Int) = 65 := by rw [e65]; rfl
        have hRR : R = some (P.textP n.kind n.mode) := by rw [HRr.out, if_neg e37, if_neg e110, if_neg e97, if_pos e65]
        go_wp2_with (refine wpList_load_row rfl 62 (.tmp 10) rfl B3 rfl 62 _ (0, 0) _ HXn.out Tryz.underlying62 rfl sizeNd ?_)
        refine (HTx.out _).mono ?_
        rintro e w6 ⟨rfl, hb6⟩
        have HB6 := Lib.hid (below_two HB5.out hb6)
        clear hb6
        go_wp2_with fail
        try rw [Exit.noGoto_ret]
        go_ret2
        exact ⟨by rw [hRR]; rfl, HB6.out⟩
      by_cases e78 : c = 78
      · have hcn : (c.toNat : Int) = 78 := by rw [e78]; rfl
        have hRR : R = some QT.data.toList := by rw [HRr.out, if_neg e37, if_neg e110, if_neg e97, if_neg e65, if_pos e78]
        go_wp2_with fail
        refine (HQn.out _).mono ?_
        rintro e w6 ⟨rfl, hb6⟩
        have HB6 := Lib.hid (below_two HB5.out hb6)
        have HX6 := Lib.hid (show w6.heap[B3]? = _ from (hb6.block _ (heap_lt HXn.out)).trans HXn.out)
        have HF6 := Lib.hid (show w6.heap[B0]? = _ from (hb6.block _ (heap_lt HXf.out)).trans HXf.out)
        clear hb6
        have kk : w6.cell? ⟨B3, 2, none⟩ = some (.int .i64 n.kind) := by rw [cell_of_row _ _ _ _ _ _ HX6.out]; rfl
        by_cases h3 : n.kind = 3
        · have d3 : (n.kind == 3) = true := beq_iff_eq.2 h3
          have hQ := HQd.out
          rw [if_pos h3] at hQ
          clear h3 hkd
          go_wp2_with (refine wpList_load_row rfl 32 (.tmp 4) rfl B0 rfl 32 _ (0, 0) _ HF6.out Tryz.underlying32 rfl sizeFs6 ?_)
          refine (HLk.out _ (by with_reducible exact HB6.out)).mono ?_
          rintro e w7 ⟨rfl, hb7⟩
          have HB7 := Lib.hid (below_two HB6.out hb7)
          clear hb7 kk
          go_wp2_with fail
          refine (HQl.out _).mono ?_
          rintro e w8 ⟨rfl, hb8⟩
          have HB8 := Lib.hid (below_two HB7.out hb8)
          clear hb8
          obtain ⟨A, hA⟩ : ∃ A, (⟨#[32, 45, 62, 32]⟩ : ByteArray) ++ q2 = A := ⟨_, rfl⟩
          have hAs : A.size = 4 + q2.size := by rw [← hA, ByteArray.size_append]; rfl
          have ha1 := run_string_add_sum (P := Tryz.prog) (w := w8) (⟨#[32, 45, 62, 32]⟩ : ByteArray) q2 (by show 4 + q2.size ≤ _; omega)
          have ha2 := run_string_add_sum (P := Tryz.prog) (w := w8) q1 A (by omega)
          rw [hA] at ha1 hQ
          clear hA
          go_wp2_with fail
          try rw [Exit.noGoto_ret]
          go_ret2
          exact ⟨by rw [hRR]; unfold oneV; dsimp only; rw [txt_of, hQ]; rfl, HB8.out⟩
        · have d3 : (n.kind == 3) = false := beq_eq_false_iff_ne.2 h3
          have hQ := HQd.out
          rw [if_neg h3] at hQ
          clear h3 hkd
          go_wp2_with fail
          try rw [Exit.noGoto_ret]
          go_ret2
          exact ⟨by rw [hRR]; unfold oneV; dsimp only; rw [txt_of, hQ]; rfl, HB6.out⟩
      by_cases e70 : c = 70
      · have hcn : (c.toNat : Int) = 70 := by rw [e70]; rfl
        have hRR : R = some (whatL n) := by rw [HRr.out, if_neg e37, if_neg e110, if_neg e97, if_neg e65, if_neg e78, if_pos e70]
        have kk2 : wr.cell? ⟨B3, 2, none⟩ = some (.int .i64 n.kind) := by rw [cell_of_row _ _ _ _ _ _ HXn.out]; rfl
        have kk6 : wr.cell? ⟨B3, 6, none⟩ = some (.int .i64 n.size) := by rw [cell_of_row _ _ _ _ _ _ HXn.out]; rfl
        have i1 := what1
        have i2 := what2
        have i3 := what3
        unfold whatL at hRR
        rcases hkd with h | h | h
        · rw [if_neg (by omega), if_neg (by omega)] at hRR
          rw [h] at kk2
          by_cases h0 : n.size = 0
          · rw [if_pos h0] at hRR
            have d6 : (n.size == 0) = true := beq_iff_eq.2 h0
            clear h h0
            go_wp2_with fail
            try rw [Exit.noGoto_ret]
            go_ret2
            exact ⟨by rw [hRR]; rfl, HB5.out⟩
          · rw [if_neg h0] at hRR
            have d6 : (n.size == 0) = false := beq_eq_false_iff_ne.2 h0
            clear h h0
            go_wp2_with fail
            try rw [Exit.noGoto_ret]
            go_ret2
            exact ⟨by rw [hRR]; rfl, HB5.out⟩
        · rw [if_pos h] at hRR
          rw [h] at kk2
          clear h
          go_wp2_with fail
          try rw [Exit.noGoto_ret]
          go_ret2
          exact ⟨by rw [hRR]; rfl, HB5.out⟩
        · rw [if_neg (by omega), if_pos h] at hRR
          rw [h] at kk2
          clear h
          go_wp2_with fail
          try rw [Exit.noGoto_ret]
          go_ret2
          exact ⟨by rw [hRR]; rfl, HB5.out⟩
      have hRR : R = none := by rw [HRr.out, if_neg e37, if_neg e110, if_neg e97, if_neg e65, if_neg e78, if_neg e70]
      have d37 := ne_of c 37 37 rfl e37
      have d110 := ne_of c 110 110 rfl e110
      have d97 := ne_of c 97 97 rfl e97
      have d65 := ne_of c 65 65 rfl e65
      have d78 := ne_of c 78 78 rfl e78
      have d70 := ne_of c 70 70 rfl e70
      clear e37 e110 e97 e65 e78 e70
      go_wp2_with fail
      try rw [Exit.noGoto_ret]
      go_ret2
      exact ⟨by rw [hRR]; rfl, HB5.out⟩
end Go.Proofs.YtigkdehaepenhaaGreatDoor.J
