/-
  What a tool's run answers: no such tool, what is wrong with the arguments, or what the tool has written. Conditions: at most 40 arguments of at most 1000 bytes; what the tool writes, what quotes, and what tells a wrong number, are told ahead.
  What realpath writes: a row, or a message, for each operand. Conditions: the run lies in memory; what real.Of and what quotes answer are told ahead.
-/
import Derived.Test.YtknfhphhcnbndaaGreatDoorGZRead
set_option linter.unusedVariables false
set_option linter.unusedSimpArgs false
namespace Go.Proofs.YtknfhphhcnbndaaGreatDoor.Z
open List renaming setIfInBounds_toArray → lt, set_cons_zero → l0, set_cons_succ → ls
open Go.Proofs.YtknfhphhcnbndaaGreatDoor.A
open Go.Proofs.YtknfhphhcnbndaaGreatDoor.B
open Go.RowKit

/-- A run's first ten cells. -/
def runS (p : Nat) (u gi wd now off : Int) (nm : ByteArray) (ov pv : Value) (q : Bool) : List Value := [.pointer (some ⟨p, 0, none⟩), .int .i64 u, .int .i64 gi, .int .i64 wd, .int .i64 now, .int .i64 off, .string nm, ov, pv, .bool q]
theorem RunAt.made {B : Nat} {W : World} (hB : B ≤ W.heap.size) (c0 c1 c2 c3 c4 c5 c6 c7 c8 c9 : Value) : RunAt B W.heap.size [c0, c1, c2, c3, c4, c5, c6, c7, c8, c9] ByteArray.empty ByteArray.empty 0 (W.alloc (.cells #[c0, c1, c2, c3, c4, c5, c6, c7, c8, c9, .pointer none, .slice none 0 0, .pointer none, .slice none 0 0, .int .i64 0] 126)) := by
  refine ⟨_, .slice none 0 0, .slice none 0 0, ⟨hB, by decide, heap_alloc_new _ _, .inl rfl, rfl, World.ownsRowF_nil _ _ _ _, fun _ => rfl⟩, ⟨hB, by decide, heap_alloc_new _ _, .inl rfl, rfl, World.ownsRowF_nil _ _ _ _, fun _ => rfl⟩, (fun k h => by cases h), rfl, rfl, fun j hj => ?_, rfl⟩
  match j, hj with
  | 0, _ => rfl
  | 1, _ => rfl
  | 2, _ => rfl
  | 3, _ => rfl
  | 4, _ => rfl
  | 5, _ => rfl
  | 6, _ => rfl
  | 7, _ => rfl
  | 8, _ => rfl
  | 9, _ => rfl
theorem tools_ok : ∀ t ∈ toolsL, TlOk t ∧ (∀ args w, (callFunc t.fn args).run Tryz.prog w = .ok (.enter t.fn args) w) ∧ t.name.size ≤ 100 := by
  intro t ht
  simp only [toolsL, List.mem_cons, List.not_mem_nil, or_false] at ht
  rcases ht with rfl | rfl | rfl | rfl | rfl | rfl | rfl
  · exact ⟨⟨by decide, by decide, by decide, by decide, by decide⟩, enters_of Tryz.func156 (by kernel_rfl) rfl, by decide⟩
  · exact ⟨⟨by decide, by decide, by decide, by decide, by decide⟩, enters_of Tryz.func157 (by kernel_rfl) rfl, by decide⟩
  · exact ⟨⟨by decide, by decide, by decide, by decide, by decide⟩, enters_of Tryz.func158 (by kernel_rfl) rfl, by decide⟩
  · exact ⟨⟨by decide, by decide, by decide, by decide, by decide⟩, enters_of Tryz.func159 (by kernel_rfl) rfl, by decide⟩
  · exact ⟨⟨by decide, by decide, by decide, by decide, by decide⟩, enters_of Tryz.func160 (by kernel_rfl) rfl, by decide⟩
  · exact ⟨⟨by decide, by decide, by decide, by decide, by decide⟩, enters_of Tryz.func161 (by kernel_rfl) rfl, by decide⟩
  · exact ⟨⟨by decide, by decide, by decide, by decide, by decide⟩, enters_of Tryz.func162 (by kernel_rfl) rfl, by decide⟩
theorem found_mem {args : List ByteArray} {t : Tl} (h : foundM args = some t) : t ∈ toolsL := by
  cases args with
  | nil => cases h
  | cons a r =>
    rw [show foundM (a :: r) = toolsL.find? (fun t => decide (t.name = a)) from rfl] at h
    exact List.mem_of_find?_eq_some h
/-- What is left of a slice behind its first member. -/
theorem slice_tail {x : ByteArray} {r : List ByteArray} {la : Option Addr} {lc : Nat} {w : World} (H : TxtL w la (x :: r)) (hc : (x :: r).length ≤ lc ∧ lc ≤ maxLen ∧ (la = none → lc = 0)) : ∃ la2 lc2, (∀ W, (Instr.slice 40 (.slice la (r.length + 1) lc) (some (.int .i64 1)) none none).run Tryz.prog W = .ok (.slice la2 r.length lc2) W) ∧ TxtL w la2 r ∧ r.length ≤ lc2 ∧ lc2 ≤ maxLen ∧ (la2 = none → lc2 = 0) := by
  obtain ⟨g, o, rfl, hg, hr, ht⟩ := H.tail
  obtain ⟨hc1, hc2, _⟩ := hc
  rw [List.length_cons] at hc1
  have hw1 : IntKind.i64.wrap (((r.length + 1 : Nat) : Int)) = ((r.length + 1 : Nat) : Int) := IntWalk.i64_in _ (by unfold maxLen at hc2; omega)
  have hge : ¬ ((r.length : Int) + 1 < 1) := by omega
  by_cases h1 : lc = 1
  · obtain rfl : r = [] := List.eq_nil_of_length_eq_zero (by omega)
    subst h1
    exact ⟨some ⟨g, o, none⟩, 0, fun W => by go_simp, RowL.nil _ _, Nat.le_refl _, by unfold maxLen; omega, fun _ => rfl⟩
  · exact ⟨some ⟨g, o + 1, none⟩, lc - 1, fun W => by go_simp, ht, by omega, by omega, fun q => by cases q⟩
def noT : ByteArray := ⟨#[100, 111, 109, 101, 115, 100, 97, 121, 58, 32, 110, 111, 32, 115, 117, 99, 104, 32, 116, 111, 111, 108, 10]⟩
/-- What a run answers. -/
def RunR (qf : ByteArray → ByteArray) (wn : Tl → List A.Op → Option ByteArray) (Do : Tl → List A.Op → List ByteArray → St → Prop) (args : List ByteArray) (s : St) : Prop := match foundM args with
  | none => s = ⟨ByteArray.empty, noT, 2⟩
  | some t => match treadM qf (wn t) t args.tail with
    | .wrong m => s = ⟨ByteArray.empty, t.name ++ ⟨#[58, 32]⟩ ++ m ++ ⟨#[10]⟩, 2⟩
    | .ok o p => Do t o p s
section
variable {B g : Nat} {S : List Value} {out err : ByteArray} {st : Int} {w w' : World}
def TForm (B g : Nat) (S : List Value) (out err : ByteArray) (st : Int) (r : Tr) (s : ByteArray) (w' : World) : Prop := match r with
  | .wrong m => s = m
  | .ok o p => s = ⟨#[]⟩ ∧ ∃ oa oc pa pc, RunAt B g ((S.set 7 (.slice oa o.length oc)).set 8 (.slice pa p.length pc)) out err st w' ∧ w'.ownsRow B 256 2 (.slice oa o.length oc) o.length (cellsC opC o) ∧ w'.ownsRow B 9 1 (.slice pa p.length pc) p.length (strs p)
theorem tread_form {r : Tr} {e : Ending} (h : TreadR B g S out err st w r e w') : ∃ s, e = .returned (.string s) ∧ Kp B g w w' ∧ TForm B g S out err st r s w' := by
  cases r with
  | wrong m => exact ⟨m, h.1, h.2, rfl⟩
  | ok o p =>
    obtain ⟨h1, oa, oc, pa, pc, h2, h3, h4, h5⟩ := h
    exact ⟨_, h1, h5, rfl, oa, oc, pa, pc, h2, h3, h4⟩
end
theorem wrong_size {qf : ByteArray → ByteArray} {wn : List A.Op → Option ByteArray} {t : Tl} {args : List ByteArray} {m : ByteArray} (h : treadM qf wn t args = .wrong m) (hz : ∀ x ∈ args, x.size ≤ 1000) (hq : (∀ o p, readM (specsM t) args = .ok o p → wn o ≠ none) → ∀ s, s.size ≤ 1000 → (qf s).size ≤ 1000000) (hws : ∀ o p a, readM (specsM t) args = .ok o p → wn o = some a → a.size ≤ 1000) : 0 < m.size ∧ m.size ≤ 2000000 := by
  have inv : ∀ a : ByteArray, (qf a).size ≤ 1000000 → 0 < (invT ++ qf a).size ∧ (invT ++ qf a).size ≤ 2000000 := fun a ha => by
    rw [app_sz]
    show 0 < 17 + _ ∧ 17 + _ ≤ _
    omega
  unfold treadM at h
  cases hr : readM (specsM t) args with
  | bad a =>
    rw [hr] at h
    obtain rfl := Tr.wrong.inj h
    exact inv a (hq (fun o p e => by rw [hr] at e; cases e) a (hz _ (read_bad_mem _ _ (Nat.le_refl _) hr)))
  | ok o p =>
    rw [hr] at h
    cases hw : wn o with
    | some a =>
      simp only [hw] at h
      obtain rfl := Tr.wrong.inj h
      exact inv a (hq (fun o' p' e => by rw [hr] at e; cases e; rw [hw]; exact fun z => by cases z) a (hws o p a hr hw))
    | none =>
      simp only [hw] at h
      unfold aloneM at h
      split at h
      · split at h
        · obtain rfl := Tr.wrong.inj h
          exact ⟨by decide, by decide⟩
        · split at h <;> cases h
      · cases h
theorem sizeCr : (Tryz.prog.info? 44).map (·.size) = some 2 := by kernel_rfl
theorem sizeEv : (Tryz.prog.info? 46).map (·.size) = some 3 := by kernel_rfl
set_option maxRecDepth 100000 in
set_option maxHeartbeats 16000000 in
theorem run_any (p : Nat) (u gi wd now off : Int) (args : List ByteArray) (la : Option Addr) (lc : Nat) (w : World) (qf : ByteArray → ByteArray) (wn : Tl → List A.Op → Option ByteArray) (Do : Tl → List A.Op → List ByteArray → St → Prop)
    (HA : TxtL w la args) (hc : args.length ≤ lc ∧ lc ≤ maxLen ∧ (la = none → lc = 0)) (hm : MaxT w) (hk : args.length ≤ 40) (hz : ∀ x ∈ args, x.size ≤ 1000)
    (HW : ∀ t, foundM args = some t → ∀ o q, readM (specsM t) args.tail = .ok o q → ∀ (X : World) (lv : Value) (oa : Option Addr) (oc : Nat), LongsAt X t lv → Below w.heap.size w X → RowL 2 opC X oa o → Calls Tryz.prog 107 #[tlV t lv, .slice oa o.length oc] X fun e w' => e = .returned (wnV (wn t o)) ∧ Below X.heap.size X w')
    (HQ : ∀ t, foundM args = some t → (∀ o q, readM (specsM t) args.tail = .ok o q → wn t o ≠ none) → QAt w.heap.size qf w ∧ ∀ s, s.size ≤ 1000 → (qf s).size ≤ 1000000) (hws : ∀ t, foundM args = some t → ∀ o q a, readM (specsM t) args.tail = .ok o q → wn t o = some a → a.size ≤ 1000)
    (HD : ∀ t, foundM args = some t → ∀ o q, treadM qf (wn t) t args.tail = .ok o q → ∀ (g : Nat) (W : World) (oa pa : Option Addr) (oc pc : Nat), RunAt w.heap.size g (runS p u gi wd now off t.name (.slice oa o.length oc) (.slice pa q.length pc) false) ByteArray.empty ByteArray.empty 0 W → Below w.heap.size w W → W.ownsRow w.heap.size 256 2 (.slice oa o.length oc) o.length (cellsC opC o) → W.ownsRow w.heap.size 9 1 (.slice pa q.length pc) q.length (strs q) →
      Calls Tryz.prog t.fn #[.pointer (some ⟨g, 0, none⟩)] W fun e w' => e = .returned (.tuple #[]) ∧ ∃ s S', Do t o q s ∧ s.out.size ≤ 1000000000 ∧ s.err.size ≤ 1000000000 ∧ RunAt w.heap.size g S' s.out s.err s.st w' ∧ Kp w.heap.size g W w') :
    Calls Tryz.prog 23 #[.pointer (some ⟨p, 0, none⟩), .agg #[.int .i64 u, .int .i64 gi], .agg #[.int .i64 wd, .int .i64 now, .int .i64 off], .slice la args.length lc] w fun e w' => ∃ s : St, e = .returned (.tuple #[.string s.out, .string s.err, .int .i64 s.st]) ∧ RunR qf wn Do args s ∧ Below w.heap.size w w' := by
  have HNm := Lib.hid (fun (X : World) (hb : Below w.heap.size w X) => named_any args la lc X (HA.keep hb) (by omega))
  have HAr := Lib.hid HA
  have HCc := Lib.hid hc
  have HMt := Lib.hid hm
  have HZ := Lib.hid hz
  have HRr := Lib.hid (fun (s : St) => (show RunR qf wn Do args s = match foundM args with | none => s = ⟨ByteArray.empty, noT, 2⟩ | some t => match treadM qf (wn t) t args.tail with | .wrong m => s = ⟨ByteArray.empty, t.name ++ ⟨#[58, 32]⟩ ++ m ++ ⟨#[10]⟩, 2⟩ | .ok o p => Do t o p s from rfl))
  clear HA hc hm hz
  go_enter Tryz.func23, Tryz.ntmps23
  go_upto_region 1 with fail
  obtain ⟨w1, hw1⟩ : ∃ w1, (w.alloc (.cells #[.int .i64 u, .int .i64 gi] 44)).alloc (.cells #[.int .i64 wd, .int .i64 now, .int .i64 off] 46) = w1 := ⟨_, rfl⟩
  have HB1 := Lib.hid (show Below w.heap.size w w1 from by rw [← hw1]; exact ((Below.refl _ _).alloc (Nat.le_refl _) _).alloc (by simp) _)
  have HX1 := Lib.hid (show w1.heap[w.heap.size]? = some (.cells #[.int .i64 u, .int .i64 gi] 44 (0, 0)) ∧ w1.heap[w.heap.size + 1]? = some (.cells #[.int .i64 wd, .int .i64 now, .int .i64 off] 46 (0, 0)) from by rw [← hw1]; exact two_new w _ _)
  rw [hw1]
  clear hw1
  cases hf : foundM args with
  | none =>
    have HR0 := Lib.hid (show RunR qf wn Do args ⟨ByteArray.empty, noT, 2⟩ from by rw [HRr.out, hf])
    have HNn := Lib.hid (fun (X : World) (hb : Below w.heap.size w X) => (HNm.out X hb).mono (R' := fun e w' => e = .returned (.tuple #[.agg #[.string ⟨#[]⟩, .string ⟨#[]⟩, .string ⟨#[]⟩, .string ⟨#[]⟩, .slice none 0 0, .int .i64 0, .nilFunc], .bool false]) ∧ Below X.heap.size X w') (by
      rintro e w' ⟨h1, h2⟩
      unfold NamedR at h1
      rw [hf] at h1
      exact ⟨h1, h2⟩))
    clear hf HNm HRr HW HQ hws HD
    go_wp2_with (go_at_call 53; refine (HNn.out _ HB1.out).mono ?_; rintro e w2 ⟨rfl, hb2⟩; have HB2 := Lib.hid (HB1.out.trans (hb2.mono HB1.out.size)); clear hb2)
    go_ret3
    exact ⟨_, rfl, HR0.out, HB2.out.alloc HB2.out.size _⟩
  | some t =>
    obtain ⟨htok, hte, htn⟩ := tools_ok t (found_mem hf)
    obtain ⟨a, r, rfl⟩ : ∃ a r, args = a :: r := by
      cases args with
      | nil => cases hf
      | cons a r => exact ⟨a, r, rfl⟩
    obtain ⟨la2, lc2, hsl, hta, hc2⟩ := slice_tail HAr.out HCc.out
    have HSl := Lib.hid hsl
    have HTa := Lib.hid hta
    have hr39 : r.length ≤ 39 := by simpa using hk
    rw [List.length_cons]
    have HNn := Lib.hid (fun (X : World) (hb : Below w.heap.size w X) => (HNm.out X hb).mono (R' := fun e w' => ∃ lo ll, e = .returned (.tuple #[.agg #[.string t.name, .string t.flags, .string t.numbers, .string t.texts, .slice lo ll ll, .int .i64 t.alone, .func (.func t.fn) #[] #[]], .bool true]) ∧ LongsAt w' t (.slice lo ll ll) ∧ Below X.heap.size X w') (by
      rintro e w' ⟨h1, h2⟩
      unfold NamedR at h1
      rw [hf] at h1
      obtain ⟨lv, h3, h4⟩ := h1
      obtain ⟨lo, rfl, h5⟩ := h4
      exact ⟨lo, _, h3, ⟨lo, rfl, h5⟩, h2⟩))
    rw [List.length_cons] at HNn
    have HWt := Lib.hid (HW t hf)
    have HQt := Lib.hid (HQ t hf)
    have hwt := hws t hf
    have HDt := Lib.hid (HD t hf)
    have hzr : ∀ x ∈ r, x.size ≤ 1000 := fun x hx => HZ.out x (List.mem_cons_of_mem _ hx)
    have HRt := Lib.hid (fun (s : St) => (show RunR qf wn Do (a :: r) s = match treadM qf (wn t) t r with | .wrong m => s = ⟨ByteArray.empty, t.name ++ ⟨#[58, 32]⟩ ++ m ++ ⟨#[10]⟩, 2⟩ | .ok o p => Do t o p s from by rw [HRr.out, hf]; rfl))
    rw [List.tail_cons] at HWt HQt hwt HDt
    clear hf HNm HRr HW HQ hws HD hsl hta HAr HCc
    go_upto_region 4 with (go_at_call 53; refine (HNn.out _ HB1.out).mono ?_; rintro e w2 ⟨lo, ll, rfl, hlg, hb2⟩; have HLg := Lib.hid hlg; have HB2 := Lib.hid hb2; clear hb2 hlg)
    have HB3 := Lib.hid (show Below w2.heap.size w2 (w2.alloc (.cells #[.string t.name, .string t.flags, .string t.numbers, .string t.texts, .slice lo ll ll, .int .i64 t.alone, .func (.func t.fn) #[] #[]] 117)) from (Below.refl _ _).alloc (Nat.le_refl _) _)
    have HX3 := Lib.hid (heap_alloc_new w2 (.cells #[.string t.name, .string t.flags, .string t.numbers, .string t.texts, .slice lo ll ll, .int .i64 t.alone, .func (.func t.fn) #[] #[]] 117))
    generalize w2.alloc (.cells #[.string t.name, .string t.flags, .string t.numbers, .string t.texts, .slice lo ll ll, .int .i64 t.alone, .func (.func t.fn) #[] #[]] 117) = w3 at HB3 HX3 ⊢
    generalize w2.heap.size = bt at HX3 ⊢
    have HB13 := Lib.hid (HB2.out.trans (HB3.out.mono HB2.out.size))
    have HXc := Lib.hid ((HB13.out.block _ (heap_lt HX1.out.1)).trans HX1.out.1)
    have HXe := Lib.hid ((HB13.out.block _ (heap_lt HX1.out.2)).trans HX1.out.2)
    have n0 : w3.cell? ⟨bt, 0, none⟩ = some (.string t.name) := by rw [cell_of_row _ _ _ _ _ _ HX3.out]; rfl
    have HB03 := Lib.hid (HB1.out.trans (HB13.out.mono HB1.out.size))
    have HLg3 := Lib.hid (HLg.out.keep HB3.out)
    go_upto_region 5 with (first
      | (refine wpList_load_row rfl 44 (.tmp 5) rfl w.heap.size rfl 44 _ (0, 0) _ HXc.out Tryz.underlying44 rfl sizeCr ?_)
      | (refine wpList_load_row rfl 46 (.tmp 6) rfl (w.heap.size + 1) rfl 46 _ (0, 0) _ HXe.out Tryz.underlying46 rfl sizeEv ?_))
    have HR4 := Lib.hid (show RunAt w.heap.size w3.heap.size [.pointer (some ⟨p, 0, none⟩), .int .i64 u, .int .i64 gi, .int .i64 wd, .int .i64 now, .int .i64 off, .string t.name, .slice none 0 0, .slice none 0 0, .bool false] ByteArray.empty ByteArray.empty 0 (w3.alloc (.cells #[.pointer (some ⟨p, 0, none⟩), .int .i64 u, .int .i64 gi, .int .i64 wd, .int .i64 now, .int .i64 off, .string t.name, .slice none 0 0, .slice none 0 0, .bool false, .pointer none, .slice none 0 0, .pointer none, .slice none 0 0, .int .i64 0] 126)) from RunAt.made HB03.out.size _ _ _ _ _ _ _ _ _ _)
    have HB4 := Lib.hid (show Below w3.heap.size w3 (w3.alloc (.cells #[.pointer (some ⟨p, 0, none⟩), .int .i64 u, .int .i64 gi, .int .i64 wd, .int .i64 now, .int .i64 off, .string t.name, .slice none 0 0, .slice none 0 0, .bool false, .pointer none, .slice none 0 0, .pointer none, .slice none 0 0, .int .i64 0] 126)) from (Below.refl _ _).alloc (Nat.le_refl _) _)
    generalize (w3.alloc (.cells #[.pointer (some ⟨p, 0, none⟩), .int .i64 u, .int .i64 gi, .int .i64 wd, .int .i64 now, .int .i64 off, .string t.name, .slice none 0 0, .slice none 0 0, .bool false, .pointer none, .slice none 0 0, .pointer none, .slice none 0 0, .int .i64 0] 126)) = w4 at HR4 HB4 ⊢
    have HB04 := Lib.hid (HB03.out.trans (HB4.out.mono HB03.out.size))
    have HX4 := Lib.hid ((HB4.out.block _ (heap_lt HX3.out)).trans HX3.out)
    have HL4 := Lib.hid (HLg3.out.keep HB4.out)
    have hbg : bt ≠ w3.heap.size := Nat.ne_of_lt (heap_lt HX3.out)
    have HBg := Lib.hid hbg
    clear n0 HXc HXe HX3 HB3 HB13 HB03 HLg3 HLg HB2 HB1 HX1 HB4 HNn hbg
    generalize w3.heap.size = g at HR4 HBg ⊢
    have HRd := Lib.hid (fun (X : World) (hb : Below w4.heap.size w4 X) => tread_any (HR4.out.keep hb) t (.slice lo ll ll) r la2 lc2 qf (wn t) (HL4.out.keep hb) htok (HTa.out.keep (HB04.out.trans (hb.mono HB04.out.size))) hc2 (HMt.out.keep (HB04.out.trans (hb.mono HB04.out.size))) (by omega) hzr
      (fun o q h X2 oa oc hb2 hr => HWt.out o q h X2 _ oa oc ((HL4.out.keep hb).keep hb2) ((HB04.out.trans (hb.mono HB04.out.size)).trans (hb2.mono (Nat.le_trans HB04.out.size hb.size))) hr) (fun h => ⟨(HQt.out h).1.keep (HB04.out.trans (hb.mono HB04.out.size)), (HQt.out h).2⟩) hwt)
    unfold tlV at HRd
    have HWz := Lib.hid (fun m (h : treadM qf (wn t) t r = .wrong m) => wrong_size h hzr (fun z => (HQt.out z).2) hwt)
    clear HWt HQt hwt HL4 HMt HTa
-- TILL 5
    refine Till.region (z := 1000) (S := fun w' => Below w.heap.size w w' ∧ w'.heap[bt]? = some (.cells #[.string t.name, .string t.flags, .string t.numbers, .string t.texts, .slice lo ll ll, .int .i64 t.alone, .func (.func t.fn) #[] #[]] 117 (0, 0))) (by kernel_rfl) ⟨HB04.out.drew, HX4.out⟩ (fun hHeld => ?_)
    refine Till.ty 0 (.agg #[.string t.name, .string t.flags, .string t.numbers, .string t.texts, .slice lo ll ll, .int .i64 t.alone, .func (.func t.fn) #[] #[]]) rfl (yieldsIf_load_mid (by rfl) 117 (.tmp 11) rfl bt 0 rfl [.string t.name, .string t.flags, .string t.numbers, .string t.texts, .slice lo ll ll, .int .i64 t.alone, .func (.func t.fn) #[] #[]] _ (fun w0 hS0 => rangeB hS0.2) Tryz.underlying117 rfl sizeTl) ?_
    try simp only [Act.put, lt, l0, ls]
    refine Till.tk 1 (.slice la (r.length + 1) lc) rfl (fun w0 hS0 => ?_) ?_
    · go_simp
    try simp only [Act.put, lt, l0, ls]
    refine Till.tk 2 (.slice la2 r.length lc2) rfl (fun w0 hS0 => ?_) ?_
    · have hs := HSl.out w0; go_simp
    try simp only [Act.put, lt, l0, ls]
    refine Till.tn 3 rfl (fun K hK => ?_)
    go_simp
    refine (HRd.out _ ((Below.refl _ _).drew)).mono ?_
    intro e w5 h5
    obtain ⟨s, rfl, hk5, hf5⟩ := tread_form h5
    have hH5 : Below w.heap.size w w5 ∧ w5.heap[bt]? = some (.cells #[.string t.name, .string t.flags, .string t.numbers, .string t.texts, .slice lo ll ll, .int .i64 t.alone, .func (.func t.fn) #[] #[]] 117 (0, 0)) := ⟨hHeld.1.trans hk5.below, hk5.2.1 bt _ hHeld.2 (fun e => HBg.out (Option.some.inj e)) (fun c fz e => by simp only [Obj.cells.injEq] at e; exact absurd e.2.1 (by decide))⟩
    have HF5 := Lib.hid hf5
    have HH5 := Lib.hid hH5
    clear h5 hk5 hf5
    go_wp2_with fail
    refine hK.out _ _ (fun _ => hH5) ?_
    clear hK K
    try simp only [Act.put, lt, l0, ls]
    refine Till.tk 4 (oi := ⟨some 14, .assign (.tmp 31), 9, "tool.go:57", #[⟨3, .data⟩, ⟨3, .chain⟩, ⟨0, .phase⟩, ⟨1, .phase⟩, ⟨2, .phase⟩, ⟨3, .phase⟩], none⟩) (.string s) rfl (fun w0 hS0 => ?_) ?_
    · go_simp
    try simp only [Act.put, lt, l0, ls]
    refine Till.done (by kernel_rfl) ?_
-- TILL 5 END
    cases htr : treadM qf (wn t) t r with
    | wrong m =>
      rw [htr] at HF5
      obtain rfl := HF5.out
      obtain ⟨hm0, hm1⟩ := HWz.out s htr
      obtain ⟨m1, m2, m3, m4, m5⟩ := txt_non hm0
      have a1 := fun (W : World) => run_string_add_sum (P := Tryz.prog) W t.name ⟨#[58, 32]⟩ (by show _ + 2 ≤ _; omega)
      have a2 := fun (W : World) => run_string_add_sum (P := Tryz.prog) W (t.name ++ ⟨#[58, 32]⟩) s (by rw [app_sz]; show _ + 2 + _ ≤ _; omega)
      have a3 := fun (W : World) => run_string_add_sum (P := Tryz.prog) W (t.name ++ ⟨#[58, 32]⟩ ++ s) ⟨#[10]⟩ (by rw [app_sz, app_sz]; show _ + 2 + _ + 1 ≤ _; omega)
      have HRs := Lib.hid (show RunR qf wn Do (a :: r) ⟨ByteArray.empty, t.name ++ ⟨#[58, 32]⟩ ++ s ++ ⟨#[10]⟩, 2⟩ from by rw [HRt.out, htr])
      have n0 : w5.cell? ⟨bt, 0, none⟩ = some (.string t.name) := by rw [cell_of_row _ _ _ _ _ _ HH5.out.2]; rfl
      clear hm0 hm1 htr HF5 HRt HDt HWz
      go_upto_region 7 with fail
      go_quiet (fail)
      go_wp2
      go_ret3
      exact ⟨_, rfl, HRs.out, below_drewNb HH5.out.1⟩
    | ok o q =>
      rw [htr] at HF5
      obtain ⟨rfl, oa, oc, pa, pc, hr, ho, hp⟩ := HF5.out
      have HDx := Lib.hid (HDt.out o q htr g w5 oa pa oc pc hr HH5.out.1 ho hp)
      have HRs := Lib.hid (fun (s : St) (h : Do t o q s) => (show RunR qf wn Do (a :: r) s from by rw [HRt.out, htr]; exact h))
      have n6 : w5.cell? ⟨bt, 6, none⟩ = some (.func (.func t.fn) #[] #[]) := by rw [cell_of_row _ _ _ _ _ _ HH5.out.2]; rfl
      clear htr HF5 HRt HDt HWz hr ho hp
      have hcf := hte
      obtain ⟨F, hF⟩ : ∃ F, t.fn = F := ⟨_, rfl⟩
      rw [hF] at hcf n6 HDx
      go_wp2_with fail
      refine HDx.out.mono ?_
      rintro e w6 ⟨rfl, sx, S', hdo, hz1, hz2, hr6, hk6⟩
      have HDo := Lib.hid (HRs.out sx hdo)
      have HR6 := Lib.hid hr6
      have HB6 := Lib.hid (HH5.out.1.trans hk6.below)
      clear hdo hr6 hk6 hcf n6 hF
      go_upto_region 9 with fail
-- TILL 9
      refine Till.region (z := 1000) (S := fun w' => RunAt w.heap.size g S' sx.out sx.err sx.st w' ∧ Kp w.heap.size g w6 w') (by kernel_rfl) ⟨HR6.out.keep ((Below.refl _ _).drew), Kp.of_below HR6.out ((Below.refl _ _).drew)⟩ (fun hHeld => ?_)
      refine Till.tk 0 (.pointer (some ⟨g, 10, none⟩)) rfl (fun w0 hS0 => ?_) ?_
      · go_simp
      try simp only [Act.put, lt, l0, ls]
      refine Till.tk 2 (.pointer (some ⟨g, 12, none⟩)) rfl (fun w0 hS0 => ?_) ?_
      · go_simp
      try simp only [Act.put, lt, l0, ls]
      refine Till.tk 4 (.pointer (some ⟨g, 14, none⟩)) rfl (fun w0 hS0 => ?_) ?_
      · go_simp
      try simp only [Act.put, lt, l0, ls]
      refine Till.tk 5 (.int .i64 sx.st) rfl (fun w0 hS0 => ?_) ?_
      · have b4 := hS0.1.stat; go_simp
      try simp only [Act.put, lt, l0, ls]
      refine Till.tn 1 rfl (fun K hK => ?_)
      go_simp
      refine (out_text hHeld.1 (by omega)).mono ?_
      rintro e w7 ⟨rfl, hr7, hk7⟩
      have hH7 : RunAt w.heap.size g S' sx.out sx.err sx.st w7 ∧ Kp w.heap.size g w6 w7 := ⟨hr7, hHeld.2.trans hk7⟩
      clear hr7 hk7
      go_wp2_with fail
      refine hK.out _ _ (fun _ => hH7) ?_
      clear hK K
      try simp only [Act.put, lt, l0, ls]
      refine Till.tn 3 rfl (fun K hK => ?_)
      go_simp
      refine (err_text hH7.1 (by omega)).mono ?_
      rintro e w8 ⟨rfl, hr8, hk8⟩
      have hH8 : RunAt w.heap.size g S' sx.out sx.err sx.st w8 ∧ Kp w.heap.size g w6 w8 := ⟨hr8, hH7.2.trans hk8⟩
      have HK9 := Lib.hid hH8.2
      clear hr8 hk8
      go_wp2_with fail
      refine hK.out _ _ (fun _ => hH8) ?_
      clear hK K
      try simp only [Act.put, lt, l0, ls]
      refine Till.tk 6 (oi := ⟨some 8, .assign (.tmp 44), 9, "tool.go:61", #[⟨1, .data⟩, ⟨3, .chain⟩, ⟨0, .phase⟩, ⟨1, .phase⟩, ⟨2, .textOnly .lateStores⟩, ⟨3, .textOnly .lateStoresUnsure⟩, ⟨4, .textOnly .lateStores⟩, ⟨5, .textOnly .lateStores⟩], none⟩) (.string sx.out) rfl (fun w0 hS0 => ?_) ?_
      · go_simp
      try simp only [Act.put, lt, l0, ls]
      refine Till.tk 7 (oi := ⟨some 9, .assign (.tmp 46), 9, "tool.go:61", #[⟨3, .data⟩, ⟨6, .chain⟩, ⟨0, .phase⟩, ⟨1, .phase⟩, ⟨2, .phase⟩, ⟨3, .phase⟩, ⟨4, .textOnly .lateStores⟩, ⟨5, .textOnly .lateStores⟩, ⟨6, .phase⟩], none⟩) (.string sx.err) rfl (fun w0 hS0 => ?_) ?_
      · go_simp
      try simp only [Act.put, lt, l0, ls]
      refine Till.tk 8 (oi := ⟨some 10, .assign (.tmp 48), 3, "tool.go:61", #[⟨5, .data⟩, ⟨7, .chain⟩, ⟨0, .phase⟩, ⟨1, .phase⟩, ⟨2, .phase⟩, ⟨3, .phase⟩, ⟨4, .phase⟩, ⟨5, .phase⟩, ⟨6, .phase⟩, ⟨7, .phase⟩], none⟩) (.int .i64 sx.st) rfl (fun w0 hS0 => ?_) ?_
      · go_simp
      try simp only [Act.put, lt, l0, ls]
      refine Till.done (by kernel_rfl) ?_
-- TILL 9 END
      go_wp2_with fail
      go_ret3
      exact ⟨sx, rfl, HDo.out, HB6.out.trans HK9.out.below⟩
end Go.Proofs.YtknfhphhcnbndaaGreatDoor.Z

namespace Go.Proofs.YtknfhphhcnbndaaGreatDoor.Z
open List renaming setIfInBounds_toArray → lt, set_cons_zero → l0, set_cons_succ → ls
open Go.Proofs.YtknfhphhcnbndaaGreatDoor.A
open Go.Proofs.YtknfhphhcnbndaaGreatDoor.B
open Go.RowKit

section
variable {B g : Nat} {S : List Value} {out err : ByteArray} {st : Int} {w w' : World}
set_option maxRecDepth 100000 in
theorem rhas_any (h : RunAt B g S out err st w) (o : List A.Op) (oa : Option Addr) (oc : Nat) (c : Int) (h7 : S[7]? = some (.slice oa o.length oc)) (ho : w.ownsRow B 256 2 (.slice oa o.length oc) o.length (cellsC opC o)) (hn : o.length ≤ 100000) :
    Calls Tryz.prog 206 #[.pointer (some ⟨g, 0, none⟩), .int .u8 c] w fun e w' => e = .returned (.bool (o.any fun x => decide (x.letter = c))) ∧ Below w.heap.size w w' := by
  have c7 := h.cell h7
  obtain ⟨a2, c2, e2, hr, _⟩ := RowL.of_owns opC_len ho
  simp only [Value.slice.injEq, true_and] at e2
  obtain ⟨rfl, rfl⟩ := e2
  have HH := Lib.hid (has_any o c oa oc w hr hn)
  clear h ho hr
  generalize (o.any fun x => decide (x.letter = c)) = b at HH ⊢
  go_enter Tryz.func206, Tryz.ntmps206
  go_wp2_with (go_at_call 251; refine HH.out.mono ?_; rintro e w2 ⟨rfl, hb2⟩; have HB2 := Lib.hid hb2; clear hb2)
  go_ret
  exact ⟨rfl, HB2.out⟩
set_option maxRecDepth 100000 in
set_option maxHeartbeats 4000000 in
theorem realOf_any {p : Nat} {u gi wd now off : Int} {nm : ByteArray} {ov pv : Value} {q : Bool} (h : RunAt B g (runS p u gi wd now off nm ov pv q) out err st w) (x : ByteArray) (OO : ByteArray → Int → Int → Prop) (HOf : ∀ X, Below w.heap.size w X → Calls Tryz.prog 38 #[.pointer (some ⟨p, 0, none⟩), .agg #[.int .i64 u, .int .i64 gi], .string x] X fun e w' => ∃ s n er, e = .returned (.tuple #[.string s, .int .i64 n, .int .i64 er]) ∧ OO s n er ∧ Below X.heap.size X w') :
    Calls Tryz.prog 218 #[.pointer (some ⟨g, 0, none⟩), .string x] w fun e w' => ∃ s n er, e = .returned (.tuple #[.string s, .int .i64 er]) ∧ OO s n er ∧ Below w.heap.size w w' := by
  have HW := Lib.hid (show ∀ X, Below w.heap.size w X → X.cell? ⟨g, 0, none⟩ = some (.pointer (some ⟨p, 0, none⟩)) ∧ X.rangeAt g 1 [.int .i64 u, .int .i64 gi] from fun X hb => ⟨(h.keep hb).cell rfl, fun j v hj => by
    match j, hj with
    | 0, hj => exact (h.keep hb).cell hj
    | 1, hj => exact (h.keep hb).cell hj⟩)
  have HO := Lib.hid HOf
  clear h HOf
  go_enter Tryz.func218, Tryz.ntmps218
  go_upto_region 1 with fail
-- TILL 1
  refine Till.region (z := 1000) (S := fun w' => Below w.heap.size w w') (by kernel_rfl) ((Below.refl _ _).drew) (fun hHeld => ?_)
  refine Till.tk 0 (.pointer (some ⟨g, 0, none⟩)) rfl (fun w0 hS0 => ?_) ?_
  · go_simp
  try simp only [Act.put, lt, l0, ls]
  refine Till.tk 1 (.pointer (some ⟨g, 0, none⟩)) rfl (fun w0 hS0 => ?_) ?_
  · go_simp
  try simp only [Act.put, lt, l0, ls]
  refine Till.tk 2 (.pointer (some ⟨g, 0, none⟩)) rfl (fun w0 hS0 => ?_) ?_
  · go_simp
  try simp only [Act.put, lt, l0, ls]
  refine Till.tk 3 (.pointer (some ⟨p, 0, none⟩)) rfl (fun w0 hS0 => ?_) ?_
  · have b4 := (HW.out _ hS0).1; go_simp
  try simp only [Act.put, lt, l0, ls]
  refine Till.tk 4 (.pointer (some ⟨g, 0, none⟩)) rfl (fun w0 hS0 => ?_) ?_
  · go_simp
  try simp only [Act.put, lt, l0, ls]
  refine Till.tk 5 (.pointer (some ⟨g, 0, none⟩)) rfl (fun w0 hS0 => ?_) ?_
  · go_simp
  try simp only [Act.put, lt, l0, ls]
  refine Till.tk 6 (.pointer (some ⟨g, 1, none⟩)) rfl (fun w0 hS0 => ?_) ?_
  · go_simp
  try simp only [Act.put, lt, l0, ls]
  refine Till.ty 7 (.agg #[.int .i64 u, .int .i64 gi]) rfl (yieldsIf_load_mid (by rfl) 44 (.tmp 16) rfl g 1 rfl [.int .i64 u, .int .i64 gi] _ (fun w0 hS0 => (HW.out _ hS0).2) Tryz.underlying44 rfl sizeCr) ?_
  try simp only [Act.put, lt, l0, ls]
  refine Till.tk 8 (.string x) rfl (fun w0 hS0 => ?_) ?_
  · go_simp
  try simp only [Act.put, lt, l0, ls]
  refine Till.tn 9 rfl (fun K hK => ?_)
  go_simp
  refine (HO.out _ hHeld).mono ?_
  rintro e w5 ⟨s, n, er, rfl, hoo, hb5⟩
  have hH5 : Below w.heap.size w w5 := below_two hHeld hb5
  have HOO := Lib.hid hoo
  have HB5 := Lib.hid hH5
  clear hoo hb5
  go_wp2_with fail
  refine hK.out _ _ (fun _ => hH5) ?_
  clear hK K
  try simp only [Act.put, lt, l0, ls]
  refine Till.tk 10 (oi := ⟨some 9, .move (.tmp 19), 91, "tools.go:168", #[⟨9, .data⟩], none⟩) (.tuple #[.string s, .int .i64 n, .int .i64 er]) rfl (fun w0 hS0 => ?_) ?_
  · go_simp
  try simp only [Act.put, lt, l0, ls]
  refine Till.tk 11 (oi := ⟨some 20, .extract (.tmp 9) 0, 9, "tools.go:168", #[⟨10, .data⟩], none⟩) (.string s) rfl (fun w0 hS0 => ?_) ?_
  · go_simp
  try simp only [Act.put, lt, l0, ls]
  refine Till.tk 12 (oi := ⟨some 21, .extract (.tmp 9) 1, 3, "tools.go:168", #[⟨10, .data⟩, ⟨14, .gcOnly .lateStores⟩], none⟩) (.int .i64 n) rfl (fun w0 hS0 => ?_) ?_
  · go_simp
  try simp only [Act.put, lt, l0, ls]
  refine Till.tk 13 (oi := ⟨some 22, .extract (.tmp 9) 2, 55, "tools.go:168", #[⟨10, .data⟩, ⟨15, .gcOnly .lateStores⟩], none⟩) (.int .i64 er) rfl (fun w0 hS0 => ?_) ?_
  · go_simp
  try simp only [Act.put, lt, l0, ls]
  refine Till.tk 14 (oi := ⟨some 6, .assign (.tmp 20), 9, "tools.go:168", #[⟨11, .data⟩, ⟨9, .chain⟩, ⟨0, .phase⟩, ⟨1, .phase⟩, ⟨2, .phase⟩, ⟨3, .phase⟩, ⟨4, .phase⟩, ⟨5, .phase⟩, ⟨6, .phase⟩, ⟨7, .phase⟩, ⟨8, .phase⟩, ⟨9, .phase⟩, ⟨10, .phase⟩, ⟨11, .phase⟩, ⟨12, .textOnly .lateStores⟩, ⟨13, .textOnly .lateStores⟩], none⟩) (.string s) rfl (fun w0 hS0 => ?_) ?_
  · go_simp
  try simp only [Act.put, lt, l0, ls]
  refine Till.tk 15 (oi := ⟨some 7, .assign (.tmp 21), 3, "tools.go:168", #[⟨12, .data⟩, ⟨14, .chain⟩, ⟨0, .phase⟩, ⟨1, .phase⟩, ⟨2, .phase⟩, ⟨3, .phase⟩, ⟨4, .phase⟩, ⟨5, .phase⟩, ⟨6, .phase⟩, ⟨7, .phase⟩, ⟨8, .phase⟩, ⟨9, .phase⟩, ⟨10, .phase⟩, ⟨11, .phase⟩, ⟨12, .phase⟩, ⟨13, .textOnly .lateStores⟩, ⟨14, .phase⟩], none⟩) (.int .i64 n) rfl (fun w0 hS0 => ?_) ?_
  · go_simp
  try simp only [Act.put, lt, l0, ls]
  refine Till.tk 16 (oi := ⟨some 8, .assign (.tmp 22), 55, "tools.go:168", #[⟨13, .data⟩, ⟨15, .chain⟩, ⟨0, .phase⟩, ⟨1, .phase⟩, ⟨2, .phase⟩, ⟨3, .phase⟩, ⟨4, .phase⟩, ⟨5, .phase⟩, ⟨6, .phase⟩, ⟨7, .phase⟩, ⟨8, .phase⟩, ⟨9, .phase⟩, ⟨10, .phase⟩, ⟨11, .phase⟩, ⟨12, .phase⟩, ⟨13, .phase⟩, ⟨14, .phase⟩, ⟨15, .phase⟩], none⟩) (.int .i64 er) rfl (fun w0 hS0 => ?_) ?_
  · go_simp
  try simp only [Act.put, lt, l0, ls]
  refine Till.done (by kernel_rfl) ?_
-- TILL 1 END
  go_wp2_with fail
  go_ret2
  exact ⟨_, _, _, rfl, HOO.out, HB5.out⟩
/-- Is an option of that letter there? -/
def hasO (o : List A.Op) (c : Int) : Bool := o.any fun x => decide (x.letter = c)
set_option maxRecDepth 100000 in
set_option maxHeartbeats 8000000 in
theorem realpath_any {p : Nat} {u gi wd now off : Int} {nm : ByteArray} (o : List A.Op) (L : List ByteArray) (oa pa : Option Addr) (oc pc : Nat) (h : RunAt B g (runS p u gi wd now off nm (.slice oa o.length oc) (.slice pa L.length pc) false) ByteArray.empty ByteArray.empty 0 w) (ho : w.ownsRow B 256 2 (.slice oa o.length oc) o.length (cellsC opC o)) (hp : w.ownsRow B 9 1 (.slice pa L.length pc) L.length (strs L)) (hn : o.length ≤ 100000) (hL : L.length ≤ 40) (hx : ∀ x ∈ L, x.size ≤ 1000) (hnm : nm.size ≤ 100) (qf : ByteArray → ByteArray) (OO : ByteArray → ByteArray → Int → Int → Prop)
    (HOf : ∀ x ∈ L, ∀ X, Below B w X → Calls Tryz.prog 38 #[.pointer (some ⟨p, 0, none⟩), .agg #[.int .i64 u, .int .i64 gi], .string x] X fun e w' => ∃ s n er, e = .returned (.tuple #[.string s, .int .i64 n, .int .i64 er]) ∧ (OO x s n er ∧ s.size ≤ 1000000) ∧ Below X.heap.size X w')
    (HQ : (∃ x ∈ L, ∃ s n er, OO x s n er ∧ er ≠ 0) → hasO o 113 = false → QAt B qf w ∧ ∀ s, s.size ≤ 1000 → (qf s).size ≤ 1000000) :
    Calls Tryz.prog 162 #[.pointer (some ⟨g, 0, none⟩)] w fun e w' => e = .returned (.tuple #[]) ∧ ∃ rs S', rs.length = L.length ∧ (∀ (i : Nat) (x : ByteArray) (r : ByteArray × Int), L[i]? = some x → rs[i]? = some r → ∃ n, OO x r.1 n r.2) ∧ (eachM qf nm (hasO o 113) L rs ⟨ByteArray.empty, ByteArray.empty, 0⟩).out.size ≤ 1000000000 ∧ (eachM qf nm (hasO o 113) L rs ⟨ByteArray.empty, ByteArray.empty, 0⟩).err.size ≤ 1000000000 ∧ RunAt B g S' (eachM qf nm (hasO o 113) L rs ⟨ByteArray.empty, ByteArray.empty, 0⟩).out (eachM qf nm (hasO o 113) L rs ⟨ByteArray.empty, ByteArray.empty, 0⟩).err (eachM qf nm (hasO o 113) L rs ⟨ByteArray.empty, ByteArray.empty, 0⟩).st w' ∧ Kp B g w w' := by
  have HH := Lib.hid (rhas_any h o oa oc 113 rfl ho hn)
  have HR := Lib.hid h
  have HP := Lib.hid hp
  have HX := Lib.hid hx
  have HO2 := Lib.hid HOf
  have HQ2 := Lib.hid HQ
  have hq : (o.any fun x => decide (x.letter = 113)) = hasO o 113 := rfl
  rw [hq] at HH
  clear h ho hp hx HOf HQ hq
  generalize hasO o 113 = qt at HH HQ2 ⊢
  go_enter Tryz.func162, Tryz.ntmps162
  go_wp2_with fail
  refine HH.out.mono ?_
  rintro e w2 ⟨rfl, hb2⟩
  have HR2 := Lib.hid (HR.out.keep hb2)
  have HK2 := Lib.hid (Kp.of_below HR.out hb2)
  have HP2 := Lib.hid (owns_to HP.out hb2)
  have c9 : w2.cell? ⟨g, 9, none⟩ = some (.bool false) := HR2.out.cell rfl
  have f9 := HR2.out.frozen 9
  clear hb2 HH
  go_upto_region 1 with fail
  have HR3 := Lib.hid (show RunAt B g (runS p u gi wd now off nm (.slice oa o.length oc) (.slice pa L.length pc) qt) ByteArray.empty ByteArray.empty 0 (w2.setCell ⟨g, 9, none⟩ (.bool qt)) from HR2.out.set 9 (by decide) (.bool qt))
  have HK3 := Lib.hid (HK2.out.trans (kp_set HR2.out 9 (.bool qt)))
  have HP3 := Lib.hid ((kp_set HR2.out 9 (.bool qt)).owns HP2.out (by decide) (by decide))
  generalize w2.setCell ⟨g, 9, none⟩ (.bool qt) = w3 at HR3 HK3 HP3 ⊢
  clear c9 f9 HR2 HK2 HP2
  have HE := Lib.hid (each_any (w := w3) ⟨ByteArray.empty, ByteArray.empty, 0⟩ HR3.out nm qt qf L B pa pc 218 (fun x t er => ∃ n, OO x t n er) rfl rfl rfl HP3.out hL HX.out hnm (enters_of Tryz.func218 (by kernel_rfl) rfl)
    (fun x hx X o' e' st' hR hK => (realOf_any hR x (fun s n er => OO x s n er ∧ s.size ≤ 1000000) (fun Y hY => HO2.out x hx Y (HK3.out.below.trans (hK.below.trans (hY.mono hR.lo.2.2))))).mono fun e w' ⟨s, n, er, h1, h2, h3⟩ => ⟨s, er, h1, ⟨n, h2.1⟩, h2.2, h3⟩)
    (fun ⟨x, hx, t, er, ⟨n, h1⟩, h2⟩ hq => ⟨(HQ2.out ⟨x, hx, t, n, er, h1, h2⟩ hq).1.keep HK3.out.below, (HQ2.out ⟨x, hx, t, n, er, h1, h2⟩ hq).2⟩) (by decide) (by decide))
  go_wp2_with (go_at_call 210; refine HE.out.mono ?_; rintro e w4 ⟨rfl, rs, h1, h2, h3, h4, h5, h6⟩; have HF := Lib.hid (And.intro h1 (And.intro h2 (And.intro h3 (And.intro h4 (And.intro h5 h6))))); clear h1 h2 h3 h4 h5 h6)
  go_end0
  obtain ⟨h1, h2, h3, h4, h5, h6⟩ := HF.out
  exact ⟨rfl, rs, _, h1, h2, Nat.le_trans h3 (by decide), Nat.le_trans h4 (by decide), h5, HK3.out.trans h6⟩
end
end Go.Proofs.YtknfhphhcnbndaaGreatDoor.Z
