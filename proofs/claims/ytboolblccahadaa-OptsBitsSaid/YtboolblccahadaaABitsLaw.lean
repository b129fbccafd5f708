/-
  That the law OptsBits returns true. Conditions: what came in lies in memory; the library's variable holds some number.
-/
import Derived.Test.YtboolblccahadaaAPlainLaw
import Derived.BigFrame
set_option linter.unusedVariables false
set_option linter.unusedSimpArgs false
namespace Go.Proofs.Ytboolblccahadaa.A
open Go.Proofs.Ytboolblccahadaa.B
open Go.RowKit

section
variable {P : Program} {w : World} {α : Type} {f : α → List Value} {k : Nat}
/-- Append, with all members of a slice behind, where the operation is wanted. -/
theorem wpList_append_want {ops : Array Oper} {rest : List Oper} {o : Oper} {a : Act} {Q : Exit → Act → World → Prop} (hw : Region.wanted o (yielded ops a.tmps) = true) (s x : Operand) (t : TypeId)
    (ho : o.op = .call { callee := .builtin .append, args := #[s, x], argTypes := #[t, t] })
    (base : Nat) (e : TypeId) (i : TypeInfo) (z : Value) (bytes : Nat) (ht : P.underlying t = some (.slice e)) (hi : P.info? e = some i) (hz : i.zero = some z)
    (hsize : i.size = k) (hby : i.bytes = bytes) (hzs : z.cells.size = k) (hsz : 0 < k) (hk : ∀ x, (f x).length = k) (h1 : ∀ x, ∀ u ∈ f x, u.oneCell' = true)
    (v : Value) (n : Nat) (xs : List Value) (hs : a.eval s = v) (hown : w.ownsRow base e k v n xs) (la : Option Addr) (lc : Nat) (l : List α) (hx : a.eval x = .slice la l.length lc) (hsrc : RowL k f w la l) (hnil : la = none → lc = 0)
    (h63 : n + l.length ≤ maxLen) (hbytes : (n + l.length) * bytes ≤ 140737488355328) (hbase : base ≤ w.heap.size)
    (h : ∀ ao cp w', w'.ownsRow base e k (.slice ao (n + l.length) cp) (n + l.length) (xs ++ cellsC f l) → w.grownBy w' v.ownBlock → wpList P ops Q rest (a.put o.dst (.slice ao (n + l.length) cp)) w') : wpList P ops Q (o :: rest) a w :=
  Go.BigFrame.wpList_want hw fun _ hK => wp_append_rowL s x t ho base e i z bytes ht hi hz hsize hby hzs hsz hk h1 v n xs hs hown la lc l hx hsrc hnil h63 hbytes hbase fun ao cp w' p q => hK _ _ (h ao cp w' p q)
end
/-- The blocks from b on that w has are as they were. -/
def Stay (b : Nat) (w W : World) : Prop := ∀ k, b ≤ k → k < w.heap.size → W.heap[k]? = w.heap[k]?
/-- Read, where all is well; what it answers stays as long as its blocks do. -/
theorem read_stay (specs : List Sp) (args : List ByteArray) (l : List Op) (p : List ByteArray) (hr : readM specs args = .ok l p) (sa la : Option Addr) (sc lc : Nat) (W : World) (hs : SpsL W sa specs) (hl : TxtL W la args) (hc : args.length ≤ lc ∧ lc ≤ maxLen ∧ (la = none → lc = 0)) (hm : MaxT W) (hn : specs.length ≤ 1000) (hk : args.length ≤ 40) (hz : ∀ x ∈ args, x.size ≤ 1000) :
    Calls Try.prog 9 #[.slice sa specs.length sc, .slice la args.length lc] W fun e w' => (∃ oa oc pa pc, e = .returned (.tuple #[.slice oa l.length oc, .slice pa p.length pc, .string ⟨#[]⟩, .int .i64 0]) ∧ (∀ W', Stay W.heap.size w' W' → RowL 2 opC W' oa l ∧ TxtL W' pa p) ∧ (oa = none → oc = 0) ∧ (pa = none → pc = 0)) ∧ Below W.heap.size W w' := by
  refine (read_any specs args sa la sc lc W hs hl hc hm hn hk hz).mono ?_
  rintro e w' ⟨h, hb⟩
  rw [hr] at h
  obtain ⟨ov, pv, rfl, ho, hp⟩ := h
  obtain ⟨oa, oc, rfl⟩ := owns_form ho
  obtain ⟨pa, pc, rfl⟩ := owns_form hp
  exact ⟨⟨oa, oc, pa, pc, rfl, fun W' hW => ⟨owned_row opC_len (owns_at ho fun k hk => hW k (ho.lt k hk).1 (ho.lt k hk).2), owned_txt (owns_at hp fun k hk => hW k (hp.lt k hk).1 (hp.lt k hk).2)⟩, (owned_cap ho).2.2, (owned_cap hp).2.2⟩, hb⟩
/-- Read, whatever comes of it. -/
theorem read_form (specs : List Sp) (args : List ByteArray) (sa la : Option Addr) (sc lc : Nat) (W : World) (hs : SpsL W sa specs) (hl : TxtL W la args) (hc : args.length ≤ lc ∧ lc ≤ maxLen ∧ (la = none → lc = 0)) (hm : MaxT W) (hn : specs.length ≤ 1000) (hk : args.length ≤ 40) (hz : ∀ x ∈ args, x.size ≤ 1000) :
    Calls Try.prog 9 #[.slice sa specs.length sc, .slice la args.length lc] W fun e w' => (∃ oa on oc pa pn pc bl er, e = .returned (.tuple #[.slice oa on oc, .slice pa pn pc, .string bl, .int .i64 er]) ∧ ((∃ a, readM specs args = .bad a) → er = 10)) ∧ Below W.heap.size W w' := by
  refine (read_any specs args sa la sc lc W hs hl hc hm hn hk hz).mono ?_
  rintro e w' ⟨h, hb⟩
  refine ⟨?_, hb⟩
  cases hr : readM specs args with
  | bad a =>
    rw [hr] at h
    have h' : e = .returned (.tuple #[.slice none 0 0, .slice none 0 0, .string a, .int .i64 10]) := h
    exact ⟨_, _, _, _, _, _, _, _, h', fun _ => rfl⟩
  | ok l p =>
    rw [hr] at h
    obtain ⟨ov, pv, rfl, ho, hp⟩ := h
    obtain ⟨oa, oc, rfl⟩ := owns_form ho
    obtain ⟨pa, pc, rfl⟩ := owns_form hp
    exact ⟨_, _, _, _, _, _, _, _, rfl, fun ⟨a, z⟩ => by cases z⟩
def DshRel (A : List ByteArray) (w : World) (v : Value) (wr : World) : Prop := ∃ i : Nat, i ≤ A.length ∧ v = .int .i64 (i : Int) ∧ Hid (∀ (j : Nat) (x : ByteArray), j < i → A[j]? = some x → listB x ≠ [45, 45]) ∧ wr = w
def xT : ByteArray := ⟨#[120]⟩
set_option maxRecDepth 100000 in
set_option maxHeartbeats 16000000 in
theorem bits_any (specs : List Sp) (A D : List ByteArray) (sa aa da : Option Addr) (sc ac dc : Nat) (w : World) (hs : CamIn w specs sa) (hA : CamTx w A aa ac) (hD : CamTx w D da dc) (hm : MaxT w) :
    Calls Try.prog 6 #[.slice sa specs.length sc, .slice aa A.length ac, .slice da D.length dc] w fun e w' => e = .returned (.bool true) ∧ Below w.heap.size w w' := by
  obtain ⟨it, hit, ht0, ht1, ht2⟩ := info_parts infoTxt
  obtain ⟨io, hio, ho0, ho1, ho2⟩ := info_parts infoOp
  have HS := Lib.hid hs
  have HA := Lib.hid hA
  have HD := Lib.hid hD
  have HAw := Lib.hid (fun W (hb : Below w.heap.size w W) => awake_any W (hm.keep hb))
  have HFa := Lib.hid (fun W (hb : Below w.heap.size w W) => afew_any specs A sa aa sc ac W (hs.sp.keep hb) (hA.tx.keep hb) hs.len hA.len hA.size hs.long)
  have HFd := Lib.hid (fun W (hb : Below w.heap.size w W) => afew_any specs D sa da sc dc W (hs.sp.keep hb) (hD.tx.keep hb) hs.len hD.len hD.size hs.long)
  have HM := Lib.hid hm
  have hal := hA.len
  have hdl := hD.len
  clear hs hA hD hm
  go_enter Try.func6, Try.ntmps6
  go_wp2_with fail
  refine (HAw.out _ (Below.refl _ _)).mono ?_
  rintro e w2 ⟨rfl, hb2⟩
  have HB2 := Lib.hid hb2
  clear hb2
  go_wp2_with fail
  refine (HFa.out _ HB2.out).mono ?_
  rintro e w3 ⟨b, rfl, hb, rfl⟩
  have HbA := Lib.hid hb
  clear hb HFa
  cases b with
  | false =>
    go_wp2_with fail
    refine (HAw.out _ HB2.out).mono ?_
    rintro e w4 ⟨rfl, hb4⟩
    have HB4 := Lib.hid (below_two HB2.out hb4)
    clear hb4
    go_wp2_with fail
    go_ret
    exact ⟨rfl, HB4.out⟩
  | true =>
    have HF1 := Lib.hid (HbA.out rfl)
    clear HbA
    go_wp2_with fail
    refine (HFd.out _ HB2.out).mono ?_
    rintro e w4 ⟨b, rfl, hb, rfl⟩
    have HbD := Lib.hid hb
    clear hb HFd
    cases b with
    | false =>
      go_wp2_with fail
      refine (HAw.out _ HB2.out).mono ?_
      rintro e w4 ⟨rfl, hb4⟩
      have HB4 := Lib.hid (below_two HB2.out hb4)
      clear hb4
      go_wp2_with fail
      go_ret
      exact ⟨rfl, HB4.out⟩
    | true =>
      have HF2 := Lib.hid (HbD.out rfl)
      clear HbD
      by_cases h14 : 14 < A.length
      · have d1 : decide ((14 : Int) < (A.length : Int)) = true := decide_eq_true (by omega)
        go_wp2_with fail
        refine (HAw.out _ HB2.out).mono ?_
        rintro e w5 ⟨rfl, hb4⟩
        have HB4 := Lib.hid (below_two HB2.out hb4)
        clear hb4
        go_wp2_with fail
        go_ret
        exact ⟨rfl, HB4.out⟩
      · have d1 : decide ((14 : Int) < (A.length : Int)) = false := decide_eq_false (by omega)
        by_cases h15 : 15 < D.length
        · have d2 : decide ((15 : Int) < (D.length : Int)) = true := decide_eq_true (by omega)
          go_wp2_with fail
          refine (HAw.out _ HB2.out).mono ?_
          rintro e w5 ⟨rfl, hb4⟩
          have HB4 := Lib.hid (below_two HB2.out hb4)
          clear hb4
          go_wp2_with fail
          go_ret
          exact ⟨rfl, HB4.out⟩
        · have d2 : decide ((15 : Int) < (D.length : Int)) = false := decide_eq_false (by omega)
          clear HAw
          go_wp2_with fail
          go_loopw [7] (DshRel A w4) (fun v _ => A.length - (intOf v).toNat)
          case atStart => exact ⟨0, Nat.zero_le _, rfl, Lib.hid (fun j x hj => by omega), rfl⟩
          case round =>
            obtain ⟨i, hi, rfl, HNo, rfl⟩ := hrel
            by_cases hlt : i < A.length
            · have e1 : decide ((i : Int) < (A.length : Int)) = true := decide_eq_true (by omega)
              obtain ⟨x, hx⟩ : ∃ x, A[i]? = some x := ⟨_, List.getElem?_eq_getElem hlt⟩
              obtain ⟨g, o, rfl, _, r0⟩ := txt_at (HA.out.tx.keep HB2.out) hx
              have HX := Lib.hid hx
              clear hx
              by_cases hd : listB x = [45, 45]
              · have q1 : (x.toList == [45, 45]) = true := by rw [cst_eq hd]; rfl
                go_wp2_with fail
                go_ret
                exact ⟨rfl, HB2.out⟩
              · have q1 : (x.toList == [45, 45]) = false := beq_eq_false_iff_ne.2 fun z => hd (by rw [Lib.toList_data] at z; exact z)
                have HN := Lib.hid (show ∀ (j : Nat) (y : ByteArray), j < i + 1 → A[j]? = some y → listB y ≠ [45, 45] from fun j y hj hy => by
                  rcases Nat.lt_or_ge j i with q | q
                  · exact HNo.out j y q hy
                  · obtain rfl : j = i := by omega
                    rw [HX.out] at hy
                    obtain rfl := Option.some.inj hy
                    exact hd)
                clear hd
                go_wp2_with fail
                go_roundw
                case rel => exact ⟨i + 1, by omega, by simp, HN, rfl⟩
                case measure => simp [intOf]; omega
            · have e1 : decide ((i : Int) < (A.length : Int)) = false := decide_eq_false (by omega)
              have HNa := Lib.hid (show ∀ y ∈ A, listB y ≠ [45, 45] from fun y hy => by
                obtain ⟨j, hj⟩ := List.mem_iff_getElem?.1 hy
                exact HNo.out j y (by have := (List.getElem?_eq_some_iff.1 hj).1; omega) hj)
              clear HNo
              have HTa := Lib.hid (HA.out.tx.keep HB2.out)
              go_upto_region 9 with (at_builtin; first
                | (refine wpList_append_rowL rfl (.tmp 58) (.tmp 59) 23 rfl w.heap.size 9 it (.string ⟨#[]⟩) 16 Try.underlying23 hit ht0 ht1 ht2 rfl (by decide) txC_len txC_one _ 0 [] rfl (owns_new HB2.out.size) _ _ A rfl (HTa.out.keep ((Below.refl _ _).alloc (Nat.le_refl _) _)) HA.out.cap.2.2 (by unfold maxLen; omega) (by omega) (by have := HB2.out.size; simp; omega) ?_; intro ao5 cp5 w5 hown hgrow; rw [txC_strs, Nat.zero_add, List.nil_append] at hown; rw [Nat.zero_add]; have HO5 := Lib.hid hown; have HB5 := Lib.hid ((HB2.out.alloc HB2.out.size (.cells #[] 9)).grown hgrow (by have := HB2.out.size; simp; omega) (fun k hk => by cases hk; exact HB2.out.size)); clear hown hgrow)
                | (refine wpList_append_rowL rfl (.tmp 60) (.tmp 61) 23 rfl w.heap.size 9 it (.string ⟨#[]⟩) 16 Try.underlying23 hit ht0 ht1 ht2 rfl (by decide) txC_len txC_one _ A.length (strs A) rfl (HO5.out.alloc _) _ _ [xT] rfl (owned_txt (l := [xT]) (owns_one (b := w.heap.size) (k := 1) (xs := [.string xT]) HB5.out.size rfl)) (fun q => by cases q) (by unfold maxLen; simp; omega) (by simp; omega) (by have := HB5.out.size; simp; omega) ?_; intro ao6 cp6 w6 hown hgrow; rw [txC_strs, ← strs_app, List.length_singleton] at hown; rw [List.length_singleton]; have HO6 := Lib.hid hown; have HB6 := Lib.hid ((HB5.out.alloc HB5.out.size (.cells #[.string xT] 9)).grown hgrow (by have := HB5.out.size; simp; omega) (fun k hk => (HO5.out.lt k hk).1)); clear hown hgrow))
              clear HTa HO5 HB5
              obtain ⟨Wl, hWl⟩ : ∃ Wl, A ++ xT :: D = Wl := ⟨_, rfl⟩
              have hwl : A.length + 1 + D.length = Wl.length := by rw [← hWl, List.length_append, List.length_cons]; omega
              have HWl := Lib.hid hWl
              have HWn := Lib.hid (show strs (A ++ [xT]) ++ strs D = strs Wl from by rw [← hWl, ← strs_app, List.append_assoc]; rfl)
              have HWz := Lib.hid (show ∀ x ∈ Wl, x.size ≤ 1000 from fun x hx => by
                rw [← hWl] at hx
                rcases List.mem_append.1 hx with hx | hx
                · have := HF1.out.2.2.1 x hx; omega
                · rcases List.mem_cons.1 hx with rfl | hx
                  · decide
                  · have := HF2.out.2.2.1 x hx; omega)
              have hw40 : Wl.length ≤ 40 := by omega
              have HWk := Lib.hid hwl
              clear hWl hwl
              have HRf := Lib.hid (fun (L : List ByteArray) (a : Option Addr) (c : Nat) (W : World) (hb : Below w.heap.size w W) (hl : TxtL W a L) (hc : L.length ≤ c ∧ c ≤ maxLen ∧ (a = none → c = 0)) (hk : L.length ≤ 40) (hz : ∀ x ∈ L, x.size ≤ 1000) => read_form specs L sa a sc c W (HS.out.sp.keep hb) hl hc (HM.out.keep hb) (by have := HF1.out.2.1; omega) hk hz)
              have HRw := Lib.hid (fun (L : List ByteArray) (l : List Op) (p : List ByteArray) (hr : readM specs L = .ok l p) (a : Option Addr) (c : Nat) (W : World) (hb : Below w.heap.size w W) (hl : TxtL W a L) (hc : L.length ≤ c ∧ c ≤ maxLen ∧ (a = none → c = 0)) (hk : L.length ≤ 40) (hz : ∀ x ∈ L, x.size ≤ 1000) => read_stay specs L l p hr sa a sc c W (HS.out.sp.keep hb) hl hc (HM.out.keep hb) (by have := HF1.out.2.1; omega) hk hz)
              have HzA := Lib.hid (show ∀ x ∈ A, x.size ≤ 1000 from fun x hx => by have := HF1.out.2.2.1 x hx; omega)
              have HzD := Lib.hid (show ∀ x ∈ D, x.size ≤ 1000 from fun x hx => by have := HF2.out.2.2.1 x hx; omega)
              rcases hra : readM specs A with za | ⟨l, p⟩
              · have HRA := Lib.hid hra
                clear hra
                go_wp2_with fail
                refine (HRf.out A aa ac _ HB6.out (HA.out.tx.keep HB6.out) HA.out.cap (by omega) HzA.out).mono ?_
                rintro e w7 ⟨⟨a1, a2, a3, a4, a5, a6, a7, er1, rfl, her⟩, hb7⟩
                obtain rfl := her ⟨_, HRA.out⟩
                have HB7 := Lib.hid (below_two HB6.out hb7)
                have HO7 := Lib.hid (owns_to HO6.out hb7)
                clear hb7 her
                go_wp2_with fail
                refine (HRf.out D da dc _ HB7.out (HD.out.tx.keep HB7.out) HD.out.cap (by omega) HzD.out).mono ?_
                rintro e w8 ⟨⟨c1, c2, c3, c4, c5, c6, c7, er2, rfl, her⟩, hb8⟩
                have HB8 := Lib.hid (below_two HB7.out hb8)
                have HO8 := Lib.hid (owns_to HO7.out hb8)
                clear hb8 her
                go_wp2_with (at_builtin; go_loud (refine wpList_append_rowL rfl (.tmp 81) (.tmp 82) 23 rfl w.heap.size 9 it (.string ⟨#[]⟩) 16 Try.underlying23 hit ht0 ht1 ht2 rfl (by decide) txC_len txC_one _ (A.length + 1) (strs (A ++ [xT])) rfl HO8.out _ _ D rfl (HD.out.tx.keep HB8.out) HD.out.cap.2.2 (by unfold maxLen; omega) (by omega) HB8.out.size ?_; intro ao9 cp9 w9 hown hgrow; rw [txC_strs, HWn.out, HWk.out] at hown; rw [HWk.out]; have HO9 := Lib.hid hown; have HB9 := Lib.hid (HB8.out.grown hgrow HB8.out.size (fun k hk => (HO8.out.lt k hk).1)); clear hown hgrow))
                refine (HRf.out Wl ao9 cp9 _ HB9.out (owned_txt HO9.out) (owned_cap HO9.out) hw40 HWz.out).mono ?_
                rintro e w10 ⟨⟨f1, f2, f3, f4, f5, f6, f7, er3, rfl, _⟩, hb10⟩
                have HB10 := Lib.hid (below_two HB9.out hb10)
                clear hb10
                go_wp2_with fail
                go_ret
                exact ⟨rfl, HB10.out⟩
              · rcases hrd : readM specs D with zd | ⟨m, q⟩
                · have HRA := Lib.hid hra
                  have HRD := Lib.hid hrd
                  clear hra hrd
                  go_wp2_with fail
                  refine (HRw.out A l p HRA.out aa ac _ HB6.out (HA.out.tx.keep HB6.out) HA.out.cap (by omega) HzA.out).mono ?_
                  rintro e w7 ⟨⟨oa, oc, pa, pc, rfl, _, _, _⟩, hb7⟩
                  have HB7 := Lib.hid (below_two HB6.out hb7)
                  have HO7 := Lib.hid (owns_to HO6.out hb7)
                  clear hb7
                  go_wp2_with fail
                  refine (HRf.out D da dc _ HB7.out (HD.out.tx.keep HB7.out) HD.out.cap (by omega) HzD.out).mono ?_
                  rintro e w8 ⟨⟨c1, c2, c3, c4, c5, c6, c7, er2, rfl, her⟩, hb8⟩
                  obtain rfl := her ⟨_, HRD.out⟩
                  have HB8 := Lib.hid (below_two HB7.out hb8)
                  have HO8 := Lib.hid (owns_to HO7.out hb8)
                  clear hb8 her
                  go_wp2_with (at_builtin; go_loud (refine wpList_append_rowL rfl (.tmp 81) (.tmp 82) 23 rfl w.heap.size 9 it (.string ⟨#[]⟩) 16 Try.underlying23 hit ht0 ht1 ht2 rfl (by decide) txC_len txC_one _ (A.length + 1) (strs (A ++ [xT])) rfl HO8.out _ _ D rfl (HD.out.tx.keep HB8.out) HD.out.cap.2.2 (by unfold maxLen; omega) (by omega) HB8.out.size ?_; intro ao9 cp9 w9 hown hgrow; rw [txC_strs, HWn.out, HWk.out] at hown; rw [HWk.out]; have HO9 := Lib.hid hown; have HB9 := Lib.hid (HB8.out.grown hgrow HB8.out.size (fun k hk => (HO8.out.lt k hk).1)); clear hown hgrow))
                  refine (HRf.out Wl ao9 cp9 _ HB9.out (owned_txt HO9.out) (owned_cap HO9.out) hw40 HWz.out).mono ?_
                  rintro e w10 ⟨⟨f1, f2, f3, f4, f5, f6, f7, er3, rfl, _⟩, hb10⟩
                  have HB10 := Lib.hid (below_two HB9.out hb10)
                  clear hb10
                  go_wp2_with fail
                  go_ret
                  exact ⟨rfl, HB10.out⟩
                · have hrw : readM specs Wl = .ok (l ++ m) (p ++ xT :: q) := by
                    rw [← HWl.out]
                    exact read_bits specs xT rfl D hrd _ A l p (Nat.le_refl _) HNa.out hra
                  obtain ⟨N, hN⟩ : ∃ N, l ++ m = N := ⟨_, rfl⟩
                  obtain ⟨R, hR⟩ : ∃ R, p ++ xT :: q = R := ⟨_, rfl⟩
                  rw [hN, hR] at hrw
                  have HN := Lib.hid hN
                  have HR := Lib.hid hR
                  have HRA := Lib.hid hra
                  have HRD := Lib.hid hrd
                  have HRW := Lib.hid hrw
                  obtain ⟨hl1, hl2⟩ := read_len hra HzA.out
                  obtain ⟨hm1, hm2⟩ := read_len hrd HzD.out
                  have hlz : l.length ≤ 20000 := Nat.le_trans hl1 (Nat.le_trans (Nat.mul_le_mul_right 1001 (show A.length ≤ 14 by omega)) (by decide))
                  have hmz : m.length ≤ 20000 := Nat.le_trans hm1 (Nat.le_trans (Nat.mul_le_mul_right 1001 (show D.length ≤ 15 by omega)) (by decide))
                  have hpz : p.length ≤ 14 := by omega
                  have hqz : q.length ≤ 15 := by omega
                  have HNl := Lib.hid (show l.length + m.length = N.length from by rw [← hN, List.length_append])
                  have HRl := Lib.hid (show p.length + 1 + q.length = R.length from by rw [← hR, List.length_append, List.length_cons]; omega)
                  have HNs := Lib.hid (show cellsC opC l ++ cellsC opC m = cellsC opC N from by rw [← hN, cellsC_app])
                  have HRs := Lib.hid (show strs (p ++ [xT]) ++ strs q = strs R from by rw [← hR, ← strs_app, List.append_assoc]; rfl)
                  clear hra hrd hrw hN hR hl1 hl2 hm1 hm2
                  go_wp2_with fail
                  refine (HRw.out A l p HRA.out aa ac _ HB6.out (HA.out.tx.keep HB6.out) HA.out.cap (by omega) HzA.out).mono ?_
                  rintro e w7 ⟨⟨oa, oc, pa, pc, rfl, hst, hln, hpn⟩, hb7⟩
                  have HB7 := Lib.hid (below_two HB6.out hb7)
                  have HO7 := Lib.hid (owns_to HO6.out hb7)
                  have HS7 := Lib.hid hst
                  have HLn := Lib.hid hln
                  have HPn := Lib.hid hpn
                  have HC7 := Lib.hid hb7
                  clear hb7 hst hln hpn
                  go_wp2_with fail
                  refine (HRw.out D m q HRD.out da dc _ HB7.out (HD.out.tx.keep HB7.out) HD.out.cap (by omega) HzD.out).mono ?_
                  rintro e w8 ⟨⟨ob, oe, qa, qc, rfl, hst, hmn, hqn⟩, hb8⟩
                  have HB8 := Lib.hid (below_two HB7.out hb8)
                  have HO8 := Lib.hid (owns_to HO7.out hb8)
                  have HS8 := Lib.hid hst
                  have HMn := Lib.hid hmn
                  have HQn := Lib.hid hqn
                  have HC8 := Lib.hid hb8
                  clear hb8 hst hmn hqn
                  go_wp2_with (at_builtin; go_loud (refine wpList_append_rowL rfl (.tmp 81) (.tmp 82) 23 rfl w.heap.size 9 it (.string ⟨#[]⟩) 16 Try.underlying23 hit ht0 ht1 ht2 rfl (by decide) txC_len txC_one _ (A.length + 1) (strs (A ++ [xT])) rfl HO8.out _ _ D rfl (HD.out.tx.keep HB8.out) HD.out.cap.2.2 (by unfold maxLen; omega) (by omega) HB8.out.size ?_; intro ao9 cp9 w9 hown hgrow; rw [txC_strs, HWn.out, HWk.out] at hown; rw [HWk.out]; have HO9 := Lib.hid hown; have HB9 := Lib.hid (HB8.out.grown hgrow HB8.out.size (fun k hk => (HO8.out.lt k hk).1)); have HG9 := Lib.hid hgrow; clear hown hgrow))
                  refine (HRw.out Wl N R HRW.out ao9 cp9 _ HB9.out (owned_txt HO9.out) (owned_cap HO9.out) hw40 HWz.out).mono ?_
                  rintro e w10 ⟨⟨na, nc, ra, rc, rfl, hst, hnn, hrn⟩, hb10⟩
                  have HB10 := Lib.hid (below_two HB9.out hb10)
                  obtain ⟨hlo, hpo⟩ := HS7.out w10 (fun k h1 h2 => ((hb10.block k (Nat.lt_of_lt_of_le h2 (Nat.le_trans HC8.out.size HG9.out.size))).trans ((HG9.out.block k (Nat.lt_of_lt_of_le h2 HC8.out.size) (fun e => by have := (HO6.out.lt k e.symm).2; omega)))).trans (HC8.out.block k h2))
                  obtain ⟨hmo, hqo⟩ := HS8.out w10 (fun k h1 h2 => (hb10.block k (Nat.lt_of_lt_of_le h2 HG9.out.size)).trans (HG9.out.block k h2 (fun e => by have := (HO6.out.lt k e.symm).2; have := HC7.out.size; omega)))
                  obtain ⟨hno, hro⟩ := hst w10 (fun k _ _ => rfl)
                  have HLo := Lib.hid hlo
                  have HPo := Lib.hid hpo
                  have HMo := Lib.hid hmo
                  have HQo := Lib.hid hqo
                  have HNo := Lib.hid hno
                  have HRo := Lib.hid hro
                  clear hb10 hst hnn hrn hlo hpo hmo hqo hno hro HS7 HS8 HG9 HO9 HO8 HO7 HO6 HC7 HC8
                  go_upto_region 15 with (at_builtin; first
                    | (refine wpList_append_rowL rfl (.tmp 95) (.tmp 96) 23 rfl w10.heap.size 9 it (.string ⟨#[]⟩) 16 Try.underlying23 hit ht0 ht1 ht2 rfl (by decide) txC_len txC_one _ 0 [] rfl (owns_new (Nat.le_refl _)) _ _ p rfl (HPo.out.keep ((Below.refl _ _).alloc (Nat.le_refl _) _)) HPn.out (by unfold maxLen; omega) (by omega) (by simp) ?_; intro ao11 cp11 w11 hown hgrow; rw [txC_strs, Nat.zero_add, List.nil_append] at hown; rw [Nat.zero_add]; have HO11 := Lib.hid hown; have HC11 := Lib.hid (((Below.refl w10.heap.size w10).alloc (Nat.le_refl _) (.cells #[] 9)).grown hgrow (by simp) (fun k hk => by cases hk; exact Nat.le_refl _)); clear hown hgrow)
                    | (refine wpList_append_rowL rfl (.tmp 97) (.tmp 98) 23 rfl w10.heap.size 9 it (.string ⟨#[]⟩) 16 Try.underlying23 hit ht0 ht1 ht2 rfl (by decide) txC_len txC_one _ p.length (strs p) rfl (HO11.out.alloc _) _ _ [xT] rfl (owned_txt (l := [xT]) (owns_one (b := w10.heap.size) (k := 1) (xs := [.string xT]) HC11.out.size rfl)) (fun q => by cases q) (by unfold maxLen; simp; omega) (by simp; omega) (by have := HC11.out.size; simp; omega) ?_; intro ao12 cp12 w12 hown hgrow; rw [txC_strs, ← strs_app, List.length_singleton] at hown; rw [List.length_singleton]; have HO12 := Lib.hid hown; have HC12 := Lib.hid ((HC11.out.alloc HC11.out.size (.cells #[.string xT] 9)).grown hgrow (by have := HC11.out.size; simp; omega) (fun k hk => (HO11.out.lt k hk).1)); clear hown hgrow)
                    | (refine wpList_append_rowL rfl (.tmp 99) (.tmp 100) 23 rfl w10.heap.size 9 it (.string ⟨#[]⟩) 16 Try.underlying23 hit ht0 ht1 ht2 rfl (by decide) txC_len txC_one _ (p.length + 1) (strs (p ++ [xT])) rfl HO12.out _ _ q rfl (HQo.out.keep HC12.out) HQn.out (by unfold maxLen; omega) (by omega) HC12.out.size ?_; intro ao13 cp13 w13 hown hgrow; rw [txC_strs, HRs.out, HRl.out] at hown; rw [HRl.out]; have HO13 := Lib.hid hown; have HC13 := Lib.hid (HC12.out.grown hgrow HC12.out.size (fun k hk => (HO12.out.lt k hk).1)); clear hown hgrow))
                  go_wp2_with (at_builtin; first
                    | (refine wpList_append_want (by kernel_rfl) (.tmp 106) (.tmp 107) 26 rfl w13.heap.size 35 io (.agg #[.int .u8 0, .string ⟨#[]⟩]) 24 Try.underlying26 hio ho0 ho1 ho2 rfl (by decide) opC_len opC_one _ 0 [] rfl (owns_new (Nat.le_refl _)) _ _ l rfl (HLo.out.keep (HC13.out.trans (((Below.refl w13.heap.size w13).alloc (Nat.le_refl _) _).mono HC13.out.size))) HLn.out (by unfold maxLen; omega) (by omega) (by simp) ?_; intro ao14 cp14 w14 hown hgrow; rw [Nat.zero_add, List.nil_append] at hown; rw [Nat.zero_add]; have HO14 := Lib.hid hown; have HD14 := Lib.hid (((Below.refl w13.heap.size w13).alloc (Nat.le_refl _) (.cells #[] 35)).grown hgrow (by simp) (fun k hk => by cases hk; exact Nat.le_refl _)); clear hown hgrow)
                    | (refine wpList_append_want (by kernel_rfl) (.tmp 108) (.tmp 109) 26 rfl w13.heap.size 35 io (.agg #[.int .u8 0, .string ⟨#[]⟩]) 24 Try.underlying26 hio ho0 ho1 ho2 rfl (by decide) opC_len opC_one _ l.length (cellsC opC l) rfl HO14.out _ _ m rfl (HMo.out.keep (HC13.out.trans (HD14.out.mono HC13.out.size))) HMn.out (by unfold maxLen; omega) (by omega) HD14.out.size ?_; intro ao15 cp15 w15 hown hgrow; rw [HNs.out, HNl.out] at hown; rw [HNl.out]; have HO15 := Lib.hid hown; have HD15 := Lib.hid (HD14.out.grown hgrow HD14.out.size (fun k hk => (HO14.out.lt k hk).1)); clear hown hgrow))
                  have HE15 := Lib.hid (HC13.out.trans (HD15.out.mono HC13.out.size))
                  refine (osame_any N na ao15 nc cp15 _ (HNo.out.keep HE15.out) (owned_row opC_len HO15.out) (by have := HNl.out; omega)).mono ?_
                  rintro e w16 ⟨rfl, hb16⟩
                  have HE16 := Lib.hid (below_two HE15.out hb16)
                  have HT16 := Lib.hid (((owned_txt HO13.out).keep HD15.out).keep hb16)
                  clear hb16
                  go_wp2_with fail
                  refine (tsame_any R ra ao13 rc cp13 _ (HRo.out.keep HE16.out) HT16.out (by have := HRl.out; omega)).mono ?_
                  rintro e w17 ⟨rfl, hb17⟩
                  have HB17 := Lib.hid (HB10.out.trans ((below_two HE16.out hb17).mono HB10.out.size))
                  clear hb17
                  go_wp2_with fail
                  go_ret
                  exact ⟨rfl, HB17.out⟩
end Go.Proofs.Ytboolblccahadaa.A
