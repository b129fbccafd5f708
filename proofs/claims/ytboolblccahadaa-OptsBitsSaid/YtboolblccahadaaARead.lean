/-
  What the program's Read returns. Conditions: specs and arguments in memory, at most 1000 of each, arguments of at most 1000 bytes; the library's variable holds some number.
-/
import Derived.Test.YtboolblccahadaaATake
import Derived.Laws.ByValue
set_option linter.unusedVariables false
set_option linter.unusedSimpArgs false
namespace Go.Proofs.Ytboolblccahadaa.A
open Go.Proofs.Ytboolblccahadaa.B
open Go.RowKit

/-- Which of the reader's methods takes an argument. -/
def takerF (l : List UInt8) : FuncId := if l = [45, 45] then 21 else if Lib.hasPrefix l [45, 45] = true then 23 else if Lib.hasPrefix l [45] = true ∧ l ≠ [45] then 24 else 25
theorem cst_eq {a : ByteArray} {l : List UInt8} (h : listB a = l) : a.toList = l := by rw [Lib.toList_data]; exact h
theorem taker_any (a : ByteArray) (b : Nat) (w : World) :
    Calls Try.prog 16 #[.pointer (some ⟨b, 0, none⟩), .string a] w fun e w' => e = .returned (.func (.func (takerF (listB a))) #[.pointer (some ⟨b, 0, none⟩)] #[]) ∧ w' = w := by
  have hmf : ∀ (fn : Fn) (first cap : Array Value) (w : World), (Instr.makeFunc fn first cap).run Try.prog w = .ok (.func fn first cap) w := fun _ _ _ _ => rfl
  have HP2 := Lib.hid (Try.strings_HasPrefix a ⟨#[45, 45]⟩ w)
  have HP1 := Lib.hid (Try.strings_HasPrefix a ⟨#[45]⟩ w)
  rw [show Lib.hasPrefix a.data.toList (⟨#[45, 45]⟩ : ByteArray).data.toList = Lib.hasPrefix (listB a) [45, 45] from rfl] at HP2
  rw [show Lib.hasPrefix a.data.toList (⟨#[45]⟩ : ByteArray).data.toList = Lib.hasPrefix (listB a) [45] from rfl] at HP1
  by_cases h1 : listB a = [45, 45]
  · have e1 : (a.toList == [45, 45]) = true := by rw [cst_eq h1]; rfl
    have HT := Lib.hid (show takerF (listB a) = 21 from by unfold takerF; rw [if_pos h1])
    clear h1
    go_enter Try.func16, Try.ntmps16
    go_wp2_with fail
    go_ret
    exact ⟨by rw [HT.out]; rfl, rfl⟩
  · have e1 : (a.toList == [45, 45]) = false := beq_eq_false_iff_ne.2 fun z => h1 (by rw [Lib.toList_data] at z; exact z)
    by_cases h2 : Lib.hasPrefix (listB a) [45, 45] = true
    · rw [h2] at HP2
      have HT := Lib.hid (show takerF (listB a) = 23 from by unfold takerF; rw [if_neg h1, if_pos h2])
      clear h1 h2
      go_enter Try.func16, Try.ntmps16
      go_wp2_with (go_at_call 22; (first | with_reducible (refine HP2.out.mono ?_) | with_reducible (refine HP1.out.mono ?_)); rintro e w3 ⟨rfl, hw3⟩; subst hw3)
      go_ret
      exact ⟨by rw [HT.out]; rfl, rfl⟩
    · have h2' := h2
      rw [Bool.not_eq_true] at h2'
      rw [h2'] at HP2
      by_cases h3 : Lib.hasPrefix (listB a) [45] = true
      · rw [h3] at HP1
        by_cases h4 : listB a = [45]
        · have e2 : (a.toList != [45]) = false := by rw [cst_eq h4]; rfl
          have e3 : a.toList = [45] := cst_eq h4
          have HT := Lib.hid (show takerF (listB a) = 25 from by unfold takerF; rw [if_neg h1, if_neg h2, if_neg (fun z => z.2 h4)])
          clear h1 h2 h2' h3 h4
          go_enter Try.func16, Try.ntmps16
          go_wp2_with (go_at_call 22; (first | with_reducible (refine HP2.out.mono ?_) | with_reducible (refine HP1.out.mono ?_)); rintro e w3 ⟨rfl, hw3⟩; subst hw3)
          go_ret
          exact ⟨by rw [HT.out]; rfl, rfl⟩
        · have e3 : a.toList ≠ [45] := fun z => h4 (by rw [Lib.toList_data] at z; exact z)
          have e2 : (a.toList == [45]) = false := beq_eq_false_iff_ne.2 e3
          have HT := Lib.hid (show takerF (listB a) = 24 from by unfold takerF; rw [if_neg h1, if_neg h2, if_pos ⟨h3, h4⟩])
          clear h1 h2 h2' h3 h4
          go_enter Try.func16, Try.ntmps16
          go_wp2_with (go_at_call 22; (first | with_reducible (refine HP2.out.mono ?_) | with_reducible (refine HP1.out.mono ?_)); rintro e w3 ⟨rfl, hw3⟩; subst hw3)
          go_ret
          exact ⟨by rw [HT.out]; rfl, rfl⟩
      · have h3' := h3
        rw [Bool.not_eq_true] at h3'
        rw [h3'] at HP1
        have HT := Lib.hid (show takerF (listB a) = 25 from by unfold takerF; rw [if_neg h1, if_neg h2, if_neg (fun z => h3 z.1)])
        clear h1 h2 h2' h3 h3'
        go_enter Try.func16, Try.ntmps16
        go_wp2_with (go_at_call 22; (first | with_reducible (refine HP2.out.mono ?_) | with_reducible (refine HP1.out.mono ?_)); rintro e w3 ⟨rfl, hw3⟩; subst hw3)
        go_ret
        exact ⟨by rw [HT.out]; rfl, rfl⟩

theorem taker_enters (l : List UInt8) : ∀ args w, (callFunc (takerF l) args).run Try.prog w = .ok (.enter (takerF l) args) w := by
  unfold takerF
  by_cases h1 : l = [45, 45]
  · rw [if_pos h1]; exact enters_of Try.func21 (by kernel_rfl) rfl
  · rw [if_neg h1]
    by_cases h2 : Lib.hasPrefix l [45, 45] = true
    · rw [if_pos h2]; exact enters_of Try.func23 (by kernel_rfl) rfl
    · rw [if_neg h2]
      by_cases h3 : Lib.hasPrefix l [45] = true ∧ l ≠ [45]
      · rw [if_pos h3]; exact enters_of Try.func24 (by kernel_rfl) rfl
      · rw [if_neg h3]; exact enters_of Try.func25 (by kernel_rfl) rfl
section
variable {W0 : World} {b : Nat} {sa : Option Addr} {sn sc : Nat} {la : Option Addr} {lc : Nat} {L : List ByteArray} {O : List Op} {P : List ByteArray} {ov pv : Value} {w : World}
theorem take_any (specs : List Sp) (a : ByteArray) (h : Rdr W0 b sa specs.length sc la lc L O P ov pv w) (hs : SpsL W0 sa specs) (hm : MaxT W0) (hn : specs.length ≤ 100000) (ha : a.size ≤ 1000) (hO : O.length ≤ 50000) (hP : P.length + L.length ≤ 50000) :
    Calls Try.prog (takerF (listB a)) #[.pointer (some ⟨b, 0, none⟩), .string a] w fun e w' => Took W0 b sa specs.length sc (stepM (kindA specs a) a O P L) e w' := by
  unfold takerF kindA
  by_cases h1 : listB a = [45, 45]
  · rw [if_pos h1, h1]
    exact end_any a h (by omega)
  · rw [if_neg h1]
    by_cases h2 : Lib.hasPrefix (listB a) [45, 45] = true
    · rw [if_pos h2]
      obtain ⟨r, hr⟩ : ∃ r, listB a = 45 :: 45 :: r := by
        unfold Lib.hasPrefix at h2
        obtain ⟨r, hr⟩ := List.isPrefixOf_iff_prefix.1 h2
        exact ⟨r, hr.symm⟩
      rw [hr, kind_long (fun z => h1 (by rw [hr, z]))]
      exact long_any specs a r hr h hs hm hn ha hO (by omega)
    · rw [if_neg h2]
      by_cases h3 : Lib.hasPrefix (listB a) [45] = true ∧ listB a ≠ [45]
      · rw [if_pos h3]
        obtain ⟨c, r, hr, hc⟩ : ∃ c r, listB a = 45 :: c :: r ∧ c ≠ 45 := by
          obtain ⟨h3, h4⟩ := h3
          unfold Lib.hasPrefix at h3
          obtain ⟨r, hr⟩ := List.isPrefixOf_iff_prefix.1 h3
          cases r with
          | nil => exact absurd hr.symm h4
          | cons c r =>
            refine ⟨c, r, hr.symm, ?_⟩
            rintro rfl
            exact h2 (by unfold Lib.hasPrefix; rw [← hr]; exact List.isPrefixOf_iff_prefix.2 ⟨r, rfl⟩)
        rw [hr, kind_letters hc]
        exact letters_any specs a (c :: r) hr h hs hn ha hO (by omega)
      · rw [if_neg h3]
        have hk : kindL specs (listB a) = .operand := by
          unfold kindL
          split
          · rfl
          · rfl
          · rename_i x c r e
            rw [if_pos]
            rintro rfl
            exact h3 ⟨by rw [e]; rfl, by rw [e]; simp⟩
        rw [hk]
        exact operand_any a h (by omega)
end

/-- What Read answers, by the model. -/
def ReadR (base : Nat) (r : Rd) (e : Ending) (w' : World) : Prop := match r with
  | .bad a => e = .returned (.tuple #[.slice none 0 0, .slice none 0 0, .string a, .int .i64 10])
  | .ok l p => ∃ ov pv, e = .returned (.tuple #[ov, pv, .string ⟨#[]⟩, .int .i64 0]) ∧ w'.ownsRow base 35 2 ov l.length (cellsC opC l) ∧ w'.ownsRow base 9 1 pv p.length (strs p)
def lenAt (b : Nat) (w : World) : Nat := match w.cell? ⟨b, 1, none⟩ with
  | some (.slice _ n _) => n
  | _ => 0
def RdRel (W0 : World) (b : Nat) (sa : Option Addr) (sc : Nat) (specs : List Sp) (args : List ByteArray) (wr : World) : Prop :=
  ∃ (L : List ByteArray) (O : List Op) (P : List ByteArray), Hid (readM specs args = finL O P (readM specs L)) ∧ Hid (∀ x ∈ L, x ∈ args) ∧ O.length + L.length * 1001 ≤ args.length * 1001 ∧ P.length + L.length ≤ args.length ∧ Hid (∃ la lc ov pv, Rdr W0 b sa specs.length sc la lc L O P ov pv wr)
set_option maxRecDepth 100000 in
set_option maxHeartbeats 8000000 in
theorem read_any (specs : List Sp) (args : List ByteArray) (sa la : Option Addr) (sc lc : Nat) (w : World) (hs : SpsL w sa specs) (hl : TxtL w la args) (hc : args.length ≤ lc ∧ lc ≤ maxLen ∧ (la = none → lc = 0)) (hm : MaxT w) (hn : specs.length ≤ 1000) (hk : args.length ≤ 40) (hz : ∀ x ∈ args, x.size ≤ 1000) :
    Calls Try.prog 9 #[.slice sa specs.length sc, .slice la args.length lc] w fun e w' => ReadR w.heap.size (readM specs args) e w' ∧ Below w.heap.size w w' := by
  have HSp := Lib.hid hs
  have HM := Lib.hid hm
  have HZ := Lib.hid hz
  have HR0 := Lib.hid (show Rdr w w.heap.size sa specs.length sc la lc args [] [] (.slice none 0 0) (.slice none 0 0) (w.alloc (.cells #[.slice sa specs.length sc, .slice la args.length lc, .slice none 0 0, .slice none 0 0] 44)) from
    ⟨heap_alloc_new _ _, hl, hc, World.ownsRow_nil _ _ _ _, World.ownsRow_nil _ _ _ _, (Below.refl _ _).alloc (Nat.le_refl _) _, Nat.le_refl _⟩)
  clear hs hl hc hm hz
  go_enter Try.func9, Try.ntmps9
  go_wp2_with fail
  generalize w.alloc (.cells #[.slice sa specs.length sc, .slice la args.length lc, .slice none 0 0, .slice none 0 0] 44) = w1 at HR0 ⊢
  go_loopw [] (RdRel w w.heap.size sa sc specs args) (fun W => lenAt w.heap.size W)
  case atStart => exact ⟨args, [], [], Lib.hid (fin_nil _).symm, Lib.hid (fun x hx => hx), by simp, by simp, Lib.hid ⟨_, _, _, _, HR0.out⟩⟩
  case round =>
    obtain ⟨L, O, P, HE, HI, hO, hP, HR⟩ := hrel
    obtain ⟨la1, lc1, ov1, pv1, hr⟩ := HR.out
    have HRr := Lib.hid hr
    clear hr HR
    cases L with
    | nil =>
      have c1 : wr.cell? ⟨w.heap.size, 1, none⟩ = some (.slice la1 0 lc1) := HRr.out.cell (j := 1) rfl
      have HRn := Lib.hid (fun n => HRr.out.keep (below_drewNb (n := n) (Below.refl _ _)))
      have c2 : wr.cell? ⟨w.heap.size, 2, none⟩ = some ov1 := HRr.out.cell (j := 2) rfl
      have c3 : wr.cell? ⟨w.heap.size, 3, none⟩ = some pv1 := HRr.out.cell (j := 3) rfl
      have d2 : ∀ n, (wr.drewN n).cell? ⟨w.heap.size, 2, none⟩ = some ov1 := fun n => (HRn.out n).cell (j := 2) rfl
      have d3 : ∀ n, (wr.drewN n).cell? ⟨w.heap.size, 3, none⟩ = some pv1 := fun n => (HRn.out n).cell (j := 3) rfl
      rw [read_end] at HE
      go_upto_region 7 with fail
      go_quiet (fail)
      have HRq := Lib.hid (HRn.out nq)
      generalize wr.drewN nq = w6 at HRq ⊢
      go_wp2_with fail
      refine bodyPost_ret (v := .tuple #[ov1, pv1, .string ⟨#[]⟩, .int .i64 0]) (by simp [results, Try.results9, go_sem]) rfl ⟨?_, HRq.out.low⟩
      rw [HE.out]
      exact ⟨_, _, rfl, HRq.out.opts, HRq.out.opnd⟩
    | cons x r =>
      have c1 : wr.cell? ⟨w.heap.size, 1, none⟩ = some (.slice la1 (r.length + 1) lc1) := HRr.out.cell (j := 1) rfl
      have e1 : decide ((0 : Int) < ((r.length + 1 : Nat) : Int)) = true := decide_eq_true (by omega)
      have HNx := Lib.hid (next_any HRr.out)
      have hlen : lenAt w.heap.size wr = r.length + 1 := by unfold lenAt; rw [c1]
      have HLn := Lib.hid hlen
      have HXs := Lib.hid (HZ.out x (HI.out x List.mem_cons_self))
      rw [List.length_cons] at hO hP
      have HTk := Lib.hid (fun (W : World) la2 lc2 (hr : Rdr w w.heap.size sa specs.length sc la2 lc2 r O P ov1 pv1 W) => take_any specs x hr HSp.out HM.out (by omega) HXs.out (by omega) (by omega))
      clear hlen
      go_upto_region 5 with (first
        | (go_at_call 15; refine HNx.out.mono ?_; rintro e w2 ⟨rfl, ⟨la2, lc2, h2⟩, _⟩; have H2 := Lib.hid h2; clear h2)
        | (go_at_call 16; refine (taker_any _ _ _).mono ?_; rintro e w3 ⟨rfl, hw3⟩; subst hw3))
      have hcf := taker_enters (listB x)
      generalize takerF (listB x) = F at HTk hcf ⊢
      go_wp2_with fail
      refine (HTk.out _ _ _ H2.out).mono ?_
      intro e w4 h4
      rcases hst : stepM (kindA specs x) x O P r with _ | ⟨O', P', L'⟩
      · rw [hst] at h4
        obtain ⟨rfl, hb4⟩ := h4
        rw [read_bad hst] at HE
        have HB4 := Lib.hid hb4
        clear hst hb4 hcf
        go_wp2_with fail
        refine bodyPost_ret (v := .tuple #[.slice none 0 0, .slice none 0 0, .string x, .int .i64 10]) (by simp [results, Try.results9, go_sem]) rfl ⟨?_, HB4.out⟩
        rw [HE.out]
        rfl
      · rw [hst] at h4
        obtain ⟨rfl, la4, lc4, ov4, pv4, h4⟩ := h4
        rw [read_on hst] at HE
        have hs1 := step_left hst
        have hs2 := step_opts hst
        rw [listB_len] at hs2
        have hx := HXs.out
        have HSub := Lib.hid (show ∀ y ∈ L', y ∈ args from fun y hy => HI.out y (List.mem_cons_of_mem _ (step_sub hst y hy)))
        dsimp only at h4
        have H4 := Lib.hid h4
        have HL4 := Lib.hid (show lenAt w.heap.size w4 = L'.length from by
          have := h4.cell (j := 1) (v := .slice la4 L'.length lc4) rfl
          unfold lenAt
          rw [this])
        clear hst h4 hcf
        go_wp2_with fail
        go_roundw
        case rel => exact ⟨L', O', P', HE, HSub, by omega, by omega, Lib.hid ⟨_, _, _, _, H4.out⟩⟩
        case measure => rw [HL4.out, HLn.out]; omega
end Go.Proofs.Ytboolblccahadaa.A
