/-
 What list.Rows returns where there is one a row, or they are long.
 Conditions: each fact's own.
-/
import Derived.Test.YtfhagjnlliafiaaGreatDoorKIAlign
import Derived.Test.YtfhagjnlliafiaaGreatDoorCards
import Derived.Test.YtfhagjnlliafiaaGreatDoorTie
import Derived.Test.YtfhagjnlliafiaaGreatDoorKSBuild
import Derived.ProofKit
import Derived.Lib.LaidTab
import Derived.OpenShut
import Derived.ShutString
import Derived.ChangeOld
import Derived.Below
import Derived.LaidMore
import Derived.ChangeSame
import Derived.Deep.DeepHandedRow
import Derived.Deep.DeepWitnessRowRef
import Derived.Stop.LaidErr
import Derived.Test.YtfhagjnlliafiaaGreatDoorKWLaid
import Derived.Test.YtfhagjnlliafiaaGreatDoorKPTextAny
set_option linter.unusedSimpArgs false
set_option linter.unusedVariables false
set_option maxHeartbeats 16000000
set_option maxRecDepth 100000
open List renaming setIfInBounds_toArray → lt, set_cons_zero → l0, set_cons_succ → ls
open Go.Act renaming put → u
namespace Go.Proofs.YtfhagjnlliafiaaGreatDoor.I
open Go.Proofs.YtfhagjnlliafiaaGreatDoor.B
open Go.RowKit
theorem itoaT_size {n : Int} (h : I64 n) : (decT n).size ≤ 20 := by
 have := S.itoa_len n h.1 h.2
 show (Lib.itoa n).toArray.size ≤ 20
 simpa using this
theorem clsL_len (m : Int) (a b : Nat) (x y : UInt8) : (P.clsL m a b x y).length = 3 := rfl
theorem textP_len (k m : Int) : (P.textP k m).length = 10 := by
 unfold P.textP
 rw [List.length_append, List.length_append, List.length_append, P.kindL_len, clsL_len, clsL_len, clsL_len]
theorem when_size (h : Hw) (n : P.Nv) (hn : OkR n) (hh : OkH h) : (whenT h n).size ≤ 300000 := by
 unfold whenT
 rw [S.txt_size]
 have k := fun l => S.fmtT_len (clkI n h.clock) h.offset (clk_bd hn.val _).1 (clk_bd hn.val _).2 hh.offset.1 hh.offset.2 l
 have ho := hh.own
 unfold S.styleP
 repeat' split
 ·have := k [37, 98, 32, 37, 101, 32, 37, 72, 58, 37, 77]; simp at this; omega
 ·have := k [37, 98, 32, 37, 101, 32, 32, 37, 89]; simp at this; omega
 ·have := k [37, 70, 32, 37, 72, 58, 37, 77]; simp at this; omega
 ·have := k [37, 70, 32, 37, 84, 32, 37, 122]; simp at this; omega
 ·have := k h.own.data.toList
  have e : h.own.data.toList.length = h.own.size := size_list _
  omega
 ·simp
theorem rowF_size {M : List V.Nd} (h : Hw) {qf : ByteArray → ByteArray} (hq : ∀ s : ByteArray, s.size ≤ 60000 → (qf s).size ≤ 7 * s.size + 2) (e : En) (hG : GoodI M) (hn : OkR (V.nvAt M (V.overI M e.2))) (hh : OkH h) (hz : e.1.size ≤ 60000) (c : Nat) : (rowF M h qf e c).size ≤ 1000000 := by
 have h0 := itoaT_size hn.ino
 have h1 := itoaT_size (ceil_bd hn.val.blk)
 have h2 := textP_len (V.nvAt M (V.overI M e.2)).kind (V.nvAt M (V.overI M e.2)).mode
 have h3 := itoaT_size hn.links
 have h4 := itoaT_size hn.uid
 have h5 := itoaT_size hn.gid
 have h6 := itoaT_size hn.val.size
 have h7 := when_size h _ hn hh
 have h8 := nameI_size M hG h hq e.1 hz (V.overI M e.2) (V.nvAt M (V.overI M e.2))
 by_cases hc : c < 9
 ·rcases nine_cases hc with rfl | rfl | rfl | rfl | rfl | rfl | rfl | rfl | rfl
  ·show (decT _).size ≤ _; omega
  ·show (decT _).size ≤ _; omega
  ·show (P.txt _).size ≤ _; rw [P.txt_size]; omega
  ·show (decT _).size ≤ _; omega
  ·show (decT _).size ≤ _; omega
  ·show (decT _).size ≤ _; omega
  ·show (decT _).size ≤ _; omega
  ·show (whenT _ _).size ≤ _; omega
  ·show (nameI _ _ _ _ _ _).size ≤ _; omega
 ·have e0 : rowF M h qf e c = ⟨#[]⟩ := by
   unfold rowF rowT
   rw [List.getD_eq_getElem?_getD, List.getElem?_eq_none (by simp; omega)]
   rfl
  rw [e0]
  exact Nat.zero_le _
def allI (M : List V.Nd) (h : Hw) (qf : ByteArray → ByteArray) (T : List En) : List ByteArray := linesI h (T.map (rowF M h qf))
theorem allI_len (M : List V.Nd) (h : Hw) (qf : ByteArray → ByteArray) (T : List En) : (allI M h qf T).length = T.length := by
 unfold allI linesI
 rw [List.length_map, List.length_map]
theorem rows_any {M : List V.Nd} {p : Nat} (h : Hw) (qf : ByteArray → ByteArray) (l : List En) (a : Option Addr) (cap : Nat) (v0 w : World) (hf : V.Has v0 p M w) (hG : GoodI M) (ht : ITab w) (hq : QI h qf w) (hw : W.Tab w) (H : EntL w a l) (hl : l.length ≤ 1000) (hz : ∀ e ∈ l, e.1.size ≤ 60000) (hn : ∀ i, OkR (V.nvAt M i)) (hh : OkH h) (hfo : h.form ≠ 1 ∧ h.form ≠ 2 ∧ h.form ≠ 3) :
  Calls Tryz.prog 14 #[.pointer (some ⟨p, 0, none⟩), .slice a l.length cap, hwV h] w fun e w' => ∃ v out, e = .returned v ∧ SortedI M h.order h.rev h.dirs h.clock l out ∧ w'.ownsRow w.heap.size 9 1 v out.length (strs (allI M h qf out)) ∧ Below w.heap.size w w' := by
 have H4 := Lib.hid (fun (X : World) (hb : Below w.heap.size w X) => sorted_any h l a cap v0 X (hf.keep hb) hG (H.keep hb) hl hz)
 have H6 := Lib.hid (fun (T : List En) (fa : Option Addr) (fc b : Nat) (X : World) (hb : Below w.heap.size w X) (HT : X.ownsRow b 65 16 (.slice fa T.length fc) T.length (cellsC (itC M) T)) (hl : T.length ≤ 1000) (hz : ∀ e ∈ T, e.1.size ≤ 60000) => rowsOf_any h qf T fa fc b v0 X (hf.keep hb) hG (ht.keep hb) (hq.keep hb) HT hl hz hn hh)
 have H8 := Lib.hid (fun (T : List En) (ra : Option Addr) (rc b : Nat) (X : World) (hb : Below w.heap.size w X) (HR : X.ownsRow b 103 9 (.slice ra T.length rc) T.length (cellsC r9 (T.map (rowF M h qf)))) (hl : T.length ≤ 1000) (hz : ∀ e ∈ T, e.1.size ≤ 60000) => show Calls Tryz.prog 29 #[.slice ra T.length rc, hwV h] X fun e w' => ∃ v, e = .returned v ∧ w'.ownsRow X.heap.size 9 1 v T.length (strs (allI M h qf T)) ∧ Below X.heap.size X w' from by
  have hm : (T.map (rowF M h qf)).length = T.length := List.length_map _
  have q := aligned_any h (T.map (rowF M h qf)) ra rc b X (by rw [hm]; exact HR) (by rw [hm]; exact hl) (fun r hr c => by
   obtain ⟨e, he, rfl⟩ := List.mem_map.1 hr
   exact rowF_size h hq.size e hG (hn _) hh (hz e he) c) (hw.keep hb)
  rw [hm, show (linesI h (T.map (rowF M h qf))).length = T.length from allI_len M h qf T] at q
  exact q)
 have HTl := Lib.hid (show ∀ T : List En, SortedI M h.order h.rev h.dirs h.clock l T → T.length ≤ 1000 ∧ ∀ e ∈ T, e.1.size ≤ 60000 from fun T hT => ⟨by have := hT.len; have := there_len M l; omega, fun e he => hz e (hT.mem e he).1⟩)
 obtain ⟨hf1, hf2, hf3⟩ := hfo
 have e1 : (h.form == 1) = false := beq_eq_false_iff_ne.2 hf1
 have e2 : (h.form == 2) = false := beq_eq_false_iff_ne.2 hf2
 have e3 : (h.form == 3) = false := beq_eq_false_iff_ne.2 hf3
 unfold hwV at H4 H6 H8 ⊢
 clear hf hG ht hq hw H hz hn hh hf1 hf2 hf3
 go_enter Tryz.func14, Tryz.ntmps14
 go_upto_region 1 with fail
 obtain ⟨B0, hB0⟩ : ∃ B0, w.heap.size = B0 := ⟨_, rfl⟩
 obtain ⟨w1, hw1⟩ : ∃ w1, w.alloc (.cells #[.int .i64 h.form, .int .i64 h.most, .int .i64 h.order, .bool h.rev, .bool h.dirs, .int .i64 h.clock, .int .i64 h.quote, .bool h.mark, .bool h.inode, .bool h.blocks, .int .i64 h.style, .string h.own, .int .i64 h.now, .int .i64 h.offset] 25) = w1 := ⟨_, rfl⟩
 have HB1 := Lib.hid (show Below w.heap.size w w1 from by rw [← hw1]; exact (Below.refl _ _).alloc (Nat.le_refl _) _)
 have HX1 := Lib.hid (show w1.heap[B0]? = some (.cells #[.int .i64 h.form, .int .i64 h.most, .int .i64 h.order, .bool h.rev, .bool h.dirs, .int .i64 h.clock, .int .i64 h.quote, .bool h.mark, .bool h.inode, .bool h.blocks, .int .i64 h.style, .string h.own, .int .i64 h.now, .int .i64 h.offset] 25) from by rw [← hw1, ← hB0]; exact heap_alloc_new _ _)
 rw [hw1, hB0]
 clear hw1 hB0
 have HBw := Lib.hid (show ∀ X, Below w1.heap.size w1 X → Below w.heap.size w X from fun X hb => HB1.out.trans (hb.mono HB1.out.size))
 have HC := Lib.hid (show ∀ X, Below w1.heap.size w1 X → X.heap[B0]? = some (.cells #[.int .i64 h.form, .int .i64 h.most, .int .i64 h.order, .bool h.rev, .bool h.dirs, .int .i64 h.clock, .int .i64 h.quote, .bool h.mark, .bool h.inode, .bool h.blocks, .int .i64 h.style, .string h.own, .int .i64 h.now, .int .i64 h.offset] 25) from fun X hb => (hb.block _ (heap_lt HX1.out)).trans HX1.out)
 clear HX1
 refine B.Till.region (z := 1000) (S := fun w' => Below w1.heap.size w1 w') (by kernel_rfl) ((Below.refl _ _).drew) (fun hHeld => ?_)
 refine B.Till.tk 0 (.pointer (some ⟨p, 0, none⟩)) rfl (fun w0 hS0 => ?_) ?_
 ·go_simp
 try simp only [u, lt, l0, ls]
 refine B.Till.tk 1 (.pointer (some ⟨p, 0, none⟩)) rfl (fun w0 hS0 => ?_) ?_
 ·go_simp
 try simp only [u, lt, l0, ls]
 refine B.Till.tk 2 (.slice a l.length cap) rfl (fun w0 hS0 => ?_) ?_
 ·go_simp
 try simp only [u, lt, l0, ls]
 refine B.Till.takeA (i := 3) (v := .agg #[.int .i64 h.form, .int .i64 h.most, .int .i64 h.order, .bool h.rev, .bool h.dirs, .int .i64 h.clock, .int .i64 h.quote, .bool h.mark, .bool h.inode, .bool h.blocks, .int .i64 h.style, .string h.own, .int .i64 h.now, .int .i64 h.offset]) rfl (by kernel_rfl) (by kernel_rfl) (by kernel_rfl) (by kernel_rfl) (fun _ _ _ h => h) (yieldsIf_load_mid (by rfl) 25 (.tmp 5) rfl B0 0 rfl [.int .i64 h.form, .int .i64 h.most, .int .i64 h.order, .bool h.rev, .bool h.dirs, .int .i64 h.clock, .int .i64 h.quote, .bool h.mark, .bool h.inode, .bool h.blocks, .int .i64 h.style, .string h.own, .int .i64 h.now, .int .i64 h.offset] _ (fun w0 hS0 => range_of (HC.out _ hS0)) Tryz.underlying25 rfl sizeHw) (by assumption) ?_
 try simp only [u, lt, l0, ls]
 refine B.Till.takeA (i := 5) (v := .agg #[.int .i64 h.form, .int .i64 h.most, .int .i64 h.order, .bool h.rev, .bool h.dirs, .int .i64 h.clock, .int .i64 h.quote, .bool h.mark, .bool h.inode, .bool h.blocks, .int .i64 h.style, .string h.own, .int .i64 h.now, .int .i64 h.offset]) rfl (by kernel_rfl) (by kernel_rfl) (by kernel_rfl) (by kernel_rfl) (fun _ _ _ h => h) (yieldsIf_load_mid (by rfl) 25 (.tmp 5) rfl B0 0 rfl [.int .i64 h.form, .int .i64 h.most, .int .i64 h.order, .bool h.rev, .bool h.dirs, .int .i64 h.clock, .int .i64 h.quote, .bool h.mark, .bool h.inode, .bool h.blocks, .int .i64 h.style, .string h.own, .int .i64 h.now, .int .i64 h.offset] _ (fun w0 hS0 => range_of (HC.out _ hS0)) Tryz.underlying25 rfl sizeHw) (by assumption) ?_
 try simp only [u, lt, l0, ls]
 refine B.Till.takeA (i := 7) (v := .agg #[.int .i64 h.form, .int .i64 h.most, .int .i64 h.order, .bool h.rev, .bool h.dirs, .int .i64 h.clock, .int .i64 h.quote, .bool h.mark, .bool h.inode, .bool h.blocks, .int .i64 h.style, .string h.own, .int .i64 h.now, .int .i64 h.offset]) rfl (by kernel_rfl) (by kernel_rfl) (by kernel_rfl) (by kernel_rfl) (fun _ _ _ h => h) (yieldsIf_load_mid (by rfl) 25 (.tmp 5) rfl B0 0 rfl [.int .i64 h.form, .int .i64 h.most, .int .i64 h.order, .bool h.rev, .bool h.dirs, .int .i64 h.clock, .int .i64 h.quote, .bool h.mark, .bool h.inode, .bool h.blocks, .int .i64 h.style, .string h.own, .int .i64 h.now, .int .i64 h.offset] _ (fun w0 hS0 => range_of (HC.out _ hS0)) Tryz.underlying25 rfl sizeHw) (by assumption) ?_
 try simp only [u, lt, l0, ls]
 refine B.Till.tn 4 rfl fun K hK => ?_
 go_simp
 refine (H4.out _ (HBw.out _ hHeld)).mono ?_
 rintro e w4 ⟨sv, T, rfl, hST, hos, hb4⟩
 have hH4 : Below w1.heap.size w1 w4 := hHeld.trans (hb4.mono hHeld.size)
 have HST := Lib.hid hST
 have HOs := Lib.hid hos
 obtain ⟨sa, sc, hsv⟩ := owns_form hos
 subst hsv
 clear hST hos hb4
 go_wp2_with fail
 refine hK.out _ _ (fun _ => hH4) ?_
 clear hK K
 try simp only [u, lt, l0, ls]
 refine B.Till.tn 6 rfl fun K hK => ?_
 go_simp
 refine (H6.out T sa sc _ _ (HBw.out _ hH4) HOs.out (HTl.out T HST.out).1 (HTl.out T HST.out).2).mono ?_
 rintro e w6 ⟨rv, rfl, hor, hb6⟩
 have hH6 : Below w1.heap.size w1 w6 := hH4.trans (hb6.mono hH4.size)
 have HOr := Lib.hid hor
 obtain ⟨ra, rc, hrv⟩ := owns_form hor
 subst hrv
 clear hor hb6
 go_wp2_with fail
 refine hK.out _ _ (fun _ => hH6) ?_
 clear hK K
 try simp only [u, lt, l0, ls]
 refine B.Till.tn 8 rfl fun K hK => ?_
 go_simp
 refine (H8.out T ra rc _ _ (HBw.out _ hH6) HOr.out (HTl.out T HST.out).1 (HTl.out T HST.out).2).mono ?_
 rintro e w8 ⟨lv, rfl, hol, hb8⟩
 have hH8 : Below w1.heap.size w1 w8 := hH6.trans (hb8.mono hH6.size)
 have HO8 := Lib.hid (owns_low hol (HBw.out _ hH6).size)
 obtain ⟨la, lc, hlv⟩ := owns_form hol
 subst hlv
 clear hol hb8
 go_wp2_with fail
 refine hK.out _ _ (fun _ => hH8) ?_
 clear hK K
 try simp only [u, lt, l0, ls]
 refine B.Till.tk 9 (oi := ⟨some 7, .assign (.tmp 16), 47, "list.go:71", #[⟨8, .data⟩, ⟨8, .chain⟩, ⟨0, .phase⟩, ⟨1, .phase⟩, ⟨2, .phase⟩, ⟨3, .phase⟩, ⟨4, .phase⟩, ⟨5, .phase⟩, ⟨6, .phase⟩, ⟨7, .phase⟩, ⟨8, .phase⟩], none⟩) (.slice la T.length lc) rfl (fun w0 hS0 => ?_) ?_
 ·go_simp
 try simp only [u, lt, l0, ls]
 refine B.Till.done (by kernel_rfl) ?_
 have f0 : w8.cell? ⟨B0, 0, none⟩ = some (.int .i64 h.form) := by rw [cell_of_row _ _ _ _ _ _ (HC.out _ hH8)]; rfl
 have HB8 := Lib.hid (HBw.out _ hH8)
 clear hHeld hH4 hH6 hH8
 go_wp2_with fail
 go_ret
 exact ⟨_, T, rfl, HST.out, HO8.out, HB8.out⟩
end Go.Proofs.YtfhagjnlliafiaaGreatDoor.I
namespace Go.Proofs.YtfhagjnlliafiaaGreatDoor.S
open Go.Proofs.YtfhagjnlliafiaaGreatDoor.D
open Go.ChangeShapes Go.WideShapes Go.ChangeAt Go.RowKit
theorem own : ownKnob Tryz.prog.godebug = none := by kernel_rfl
theorem laidOut : laidOutB Tryz.prog = true := by kernel_rfl
theorem gLen : Tryz.prog.globalNamed "domesday/date.lengths" = some 8 := by kernel_rfl
theorem gLenType : (Tryz.prog.globals[8]?).map (·.type) = some 241 := by kernel_rfl
theorem gPowType : (Tryz.prog.globals[5]?).map (·.type) = some 225 := by kernel_rfl
theorem gMon : Tryz.prog.globalNamed "domesday/stamp.monthNames" = some 3 := by kernel_rfl
theorem gMonType : (Tryz.prog.globals[3]?).map (·.type) = some 209 := by kernel_rfl
theorem gDay : Tryz.prog.globalNamed "domesday/stamp.dayNames" = some 4 := by kernel_rfl
theorem gDayType : (Tryz.prog.globals[4]?).map (·.type) = some 210 := by kernel_rfl
theorem cellsLen : Tryz.prog.cellsOf 241 = 12 := by kernel_rfl
theorem cellsInt : Tryz.prog.cellsOf 3 = 1 := by kernel_rfl
theorem cellsPow : Tryz.prog.cellsOf 225 = 20 := by kernel_rfl
theorem cellsU64 : Tryz.prog.cellsOf 183 = 1 := by kernel_rfl
theorem cellsStr : Tryz.prog.cellsOf 9 = 1 := by kernel_rfl
def lens : List Int := [31, 28, 31, 30, 31, 30, 31, 31, 30, 31, 30, 31]
def textsD {H : Type} (ls : List (List UInt8)) : DataW H := .agg (ls.map fun l => .lit (.string l))
theorem cells_of_texts {H : Type} {enc : TypeId × Value → H} {P : Program} {w : World} {base : Nat} {sp : Nat → Bool} {held : Bool} {fuel : Nat} {t e : TypeId} {n : Nat} {cs : List Value} {ls : List (List UInt8)} {p : List MemPlace}
  (ht : P.underlying t = some (.array n e)) (he : P.underlying e = some .string) (hce : P.cellsOf e = 1) (h : DataW.trod enc P w base sp held fuel t cs = some (textsD ls, p)) (i : Nat) (l : List UInt8) (hi : ls[i]? = some l) : cs[i]? = some (.string (txt l)) := by
 obtain ⟨xs, m, _, hx, hlen, hxl, hf⟩ := DataW.trod_array ht h
 have e1 : ls.map (fun l => (DataW.lit (.string l) : DataW H)) = xs.map (·.1) := by
  have := congrArg Prod.fst hx
  simpa [textsD] using this
 have e2 : ls.length = n := by
  have := congrArg List.length e1
  simp at this
  omega
 have hin : i < ls.length := (List.getElem?_eq_some_iff.1 hi).1
 have g := hf i (by omega)
 rw [hce, Nat.mul_one] at g
 obtain ⟨y, hy⟩ : ∃ y, xs[i]? = some y := ⟨xs[i]'(by omega), List.getElem?_eq_getElem (by omega)⟩
 rw [hy] at g
 obtain ⟨s, hs, hys, _⟩ := DataW.trod_string he g
 have e3 := congrArg (·[i]?) e1
 simp only [List.getElem?_map, hi, hy, Option.map_some, Option.some.injEq] at e3
 rw [hys] at e3
 injection e3 with e3
 injection e3 with e3
 have e4 : cs[i]? = some (.string s) := by
  have := congrArg (·[0]?) hs
  simpa [List.getElem?_take, List.getElem?_drop] using this
 rw [e4, e3]
 cases s
 rfl
theorem text_at {P : Program} {W : World} {name : String} {ls : List (List UInt8)} {rest : List (String × DataW Unit)} {g : Nat} {t e : TypeId} {n : Nat}
  (hg : P.globalNamed name = some g) (hty : (P.globals[g]?).map (·.type) = some t) (ht : P.underlying t = some (.array n e)) (he : P.underlying e = some .string) (hce : P.cellsOf e = 1)
  (h : laidMet P ((name, textsD ls) :: rest) W) (i : Nat) (l : List UInt8) (hi : ls[i]? = some l) : W.cell? ⟨g, i, none⟩ = some (.string (txt l)) := by
 obtain ⟨ps, ⟨g', t', cs, fuel, p, q, hg', ht', hvar, hd, _, _⟩, _⟩ := h
 obtain rfl := Option.some.inj (hg.symm.trans hg')
 obtain rfl := Option.some.inj (hty.symm.trans ht')
 have := World.var?_cell hg hvar i
 rw [this]
 have c := cells_of_texts ht he hce hd i l hi
 simpa using c
def monL : List (List UInt8) := [[74, 97, 110], [70, 101, 98], [77, 97, 114], [65, 112, 114], [77, 97, 121], [74, 117, 110], [74, 117, 108], [65, 117, 103], [83, 101, 112], [79, 99, 116], [78, 111, 118], [68, 101, 99]]
def dayNL : List (List UInt8) := [[83, 117, 110], [77, 111, 110], [84, 117, 101], [87, 101, 100], [84, 104, 117], [70, 114, 105], [83, 97, 116]]
theorem mon_list (k : Nat) (h : k < 12) : monL[k]? = some (monName k) := by
 match k, h with
 | 0, _ | 1, _ | 2, _ | 3, _ | 4, _ | 5, _ | 6, _ | 7, _ | 8, _ | 9, _ | 10, _ | 11, _ => rfl
theorem day_list (k : Nat) (h : k < 7) : dayNL[k]? = some (dayName k) := by
 match k, h with
 | 0, _ | 1, _ | 2, _ | 3, _ | 4, _ | 5, _ | 6, _ => rfl
theorem tab_of {W : World} {a b : String × DataW Unit} {rest : List (String × DataW Unit)} (h : laidMet Tryz.prog (("domesday/date.lengths", Rows.laid_domesday_date_lengths) :: a :: b :: ("internal/strconv.uint64pow10", Rows.laid_internal_strconv_uint64pow10) :: ("domesday/stamp.monthNames", Rows.laid_domesday_stamp_monthNames) :: ("domesday/stamp.dayNames", Rows.laid_domesday_stamp_dayNames) :: rest) W) : STab W := by
 have t1 : Lib.TabIs Tryz.prog W "domesday/date.lengths" .i64 lens := Lib.tabIs_of_head gLen gLenType Tryz.underlying241 Tryz.underlying3 cellsInt cellsLen h
 have t2 : Lib.TabIs Tryz.prog W "internal/strconv.uint64pow10" .u64 Lib.pow10Tab := Lib.tabIs_of_head gPow gPowType Tryz.underlying225 Tryz.underlying183 cellsU64 cellsPow h.tail.tail.tail
 refine ⟨t2, ⟨fun k hk => ?_⟩, fun k hk => ?_, fun k hk => ?_⟩
 ·have := t1.cell gLen k hk
  rw [this]
  match k, hk with
  | 0, _ | 1, _ | 2, _ | 3, _ | 4, _ | 5, _ | 6, _ | 7, _ | 8, _ | 9, _ | 10, _ | 11, _ => rfl
 ·exact text_at (ls := monL) gMon gMonType Tryz.underlying209 Tryz.underlying9 cellsStr h.tail.tail.tail.tail k _ (mon_list k hk)
 ·exact text_at (ls := dayNL) gDay gDayType Tryz.underlying210 Tryz.underlying9 cellsStr h.tail.tail.tail.tail.tail k _ (day_list k hk)
end Go.Proofs.YtfhagjnlliafiaaGreatDoor.S
namespace Go.Proofs.YtfhagjnlliafiaaGreatDoor.I
open Go.ChangeShapes Go.WideShapes Go.ChangeAt Go.RowKit Go.Deep
theorem own : ownKnob Tryz.prog.godebug = none := by kernel_rfl
theorem laidOut : laidOutB Tryz.prog = true := by kernel_rfl
structure ATab (w : World) : Prop where
 i : ITab w
 w : W.Tab w
theorem ATab.keep {w w' : World} (h : ATab w) (hb : Below w.heap.size w w') : ATab w' := ⟨h.i.keep hb, h.w.keep hb⟩
theorem tab_of {X : World} {a b : String × DataW Unit} (h : laidMet Tryz.prog [("domesday/date.lengths", Rows.laid_domesday_date_lengths), ("domesday/width.rows", Rows.laid_domesday_width_rows), a, b, ("internal/strconv.uint64pow10", Rows.laid_internal_strconv_uint64pow10), ("unicode/utf8.acceptRanges", Rows.laid_unicode_utf8_acceptRanges), ("domesday/perm.classes", Rows.laid_domesday_perm_classes), ("domesday/stamp.monthNames", Rows.laid_domesday_stamp_monthNames), ("domesday/stamp.dayNames", Rows.laid_domesday_stamp_dayNames), ("unicode/utf8.first", Rows.laid_unicode_utf8_first)] X) : ATab X := by
 have t1 : Lib.TabIs Tryz.prog X "domesday/date.lengths" .i64 S.lens := Lib.tabIs_of_head S.gLen S.gLenType Tryz.underlying241 Tryz.underlying3 S.cellsInt S.cellsLen h
 have t2 : Lib.TabIs Tryz.prog X "internal/strconv.uint64pow10" .u64 Lib.pow10Tab := Lib.tabIs_of_head S.gPow S.gPowType Tryz.underlying225 Tryz.underlying183 S.cellsU64 S.cellsPow h.tail.tail.tail.tail
 refine ⟨⟨G.tab_of h.tail.tail.tail.tail.tail, ⟨t2, ⟨fun k hk => ?_⟩, fun k hk => ?_, fun k hk => ?_⟩⟩, W.tab_of h.tail⟩
 ·have := t1.cell S.gLen k hk
  rw [this]
  match k, hk with
  | 0, _ | 1, _ | 2, _ | 3, _ | 4, _ | 5, _ | 6, _ | 7, _ | 8, _ | 9, _ | 10, _ | 11, _ => rfl
 ·exact S.text_at (ls := S.monL) S.gMon S.gMonType Tryz.underlying209 Tryz.underlying9 S.cellsStr h.tail.tail.tail.tail.tail.tail.tail k _ (S.mon_list k hk)
 ·exact S.text_at (ls := S.dayNL) S.gDay S.gDayType Tryz.underlying210 Tryz.underlying9 S.cellsStr h.tail.tail.tail.tail.tail.tail.tail.tail k _ (S.day_list k hk)
end Go.Proofs.YtfhagjnlliafiaaGreatDoor.I
