/-
  The list of tools: a tool found by its name. Conditions: the arguments lie in memory.
  A tool found by its name. Conditions: the arguments lie in memory.
-/
import Derived.Test.YtknfhphhcnbndaaGreatDoorGAStep
import Derived.Test.YtknfhphhcnbndaaGreatDoorGPut
import Derived.Laws.EntriesVeiled
import Derived.Deep.WholeRow
set_option linter.unusedVariables false
set_option linter.unusedSimpArgs false
namespace Go.Proofs.YtknfhphhcnbndaaGreatDoor.Z
open Go.Proofs.YtknfhphhcnbndaaGreatDoor.A
open Go.Proofs.YtknfhphhcnbndaaGreatDoor.B
open Go.RowKit

/-- A tool: its name, its options' letters, their long names, what it does alone, its function. -/
structure Tl where
  name : ByteArray
  flags : ByteArray
  numbers : ByteArray
  texts : ByteArray
  longs : List (Int × ByteArray)
  alone : Int
  fn : FuncId
def lgC (x : Int × ByteArray) : List Value := [.int .u8 x.1, .string x.2]
theorem lgC_len (x : Int × ByteArray) : (lgC x).length = 2 := rfl
def tlC (t : Tl) (lv : Value) : List Value := [.string t.name, .string t.flags, .string t.numbers, .string t.texts, lv, .int .i64 t.alone, .func (.func t.fn) #[] #[]]
def t_ls : Tl := ⟨⟨#[108, 115]⟩, ⟨#[97, 49, 67, 120, 109, 108, 83, 116, 88, 118, 85, 114, 117, 99, 103, 70, 105, 115, 81, 100]⟩, ⟨#[119]⟩, ⟨#[]⟩, [(97, ⟨#[97, 108, 108]⟩), (114, ⟨#[114, 101, 118, 101, 114, 115, 101]⟩), (103, ⟨#[103, 114, 111, 117, 112, 45, 100, 105, 114, 101, 99, 116, 111, 114, 105, 101, 115, 45, 102, 105, 114, 115, 116]⟩), (119, ⟨#[119, 105, 100, 116, 104]⟩)], 1, 156⟩
def t_stat : Tl := ⟨⟨#[115, 116, 97, 116]⟩, ⟨#[76]⟩, ⟨#[]⟩, ⟨#[99]⟩, [(99, ⟨#[102, 111, 114, 109, 97, 116]⟩), (76, ⟨#[100, 101, 114, 101, 102, 101, 114, 101, 110, 99, 101]⟩)], 0, 157⟩
def t_du : Tl := ⟨⟨#[100, 117]⟩, ⟨#[97, 115, 108]⟩, ⟨#[100, 66]⟩, ⟨#[]⟩, [(97, ⟨#[97, 108, 108]⟩), (115, ⟨#[115, 117, 109, 109, 97, 114, 105, 122, 101]⟩), (100, ⟨#[109, 97, 120, 45, 100, 101, 112, 116, 104]⟩)], 1, 158⟩
def t_df : Tl := ⟨⟨#[100, 102]⟩, ⟨#[]⟩, ⟨#[66]⟩, ⟨#[]⟩, [], 2, 159⟩
def t_tree : Tl := ⟨⟨#[116, 114, 101, 101]⟩, ⟨#[97, 100]⟩, ⟨#[76]⟩, ⟨#[]⟩, [(97, ⟨#[97, 108, 108]⟩)], 1, 160⟩
def t_readlink : Tl := ⟨⟨#[114, 101, 97, 100, 108, 105, 110, 107]⟩, ⟨#[102]⟩, ⟨#[]⟩, ⟨#[]⟩, [(102, ⟨#[99, 97, 110, 111, 110, 105, 99, 97, 108, 105, 122, 101]⟩)], 0, 161⟩
def t_realpath : Tl := ⟨⟨#[114, 101, 97, 108, 112, 97, 116, 104]⟩, ⟨#[113]⟩, ⟨#[]⟩, ⟨#[]⟩, [(113, ⟨#[113, 117, 105, 101, 116]⟩)], 0, 162⟩
def toolsL : List Tl := [t_ls, t_stat, t_du, t_df, t_tree, t_readlink, t_realpath]
/-- A tool's long names, where they lie. -/
def LongsAt (w : World) (t : Tl) (lv : Value) : Prop := ∃ la, lv = .slice la t.longs.length t.longs.length ∧ RowL 2 lgC w la t.longs
theorem LongsAt.keep {w w' : World} {t : Tl} {lv : Value} (h : LongsAt w t lv) (hb : Below w.heap.size w w') : LongsAt w' t lv := by
  obtain ⟨la, h1, h2⟩ := h
  exact ⟨la, h1, h2.keep hb⟩
/-- The list at g. -/
def ToolsAt (w : World) (b g : Nat) : Prop := g < w.heap.size ∧ ∀ (i : Nat) (t : Tl), toolsL[i]? = some t → ∃ lv, w.rangeAt g (i * 7) (tlC t lv) ∧ LongsAt w t lv ∧ ∀ k, lv.ownBlock = some k → b ≤ k
theorem allocs_old : ∀ (l : List Obj) (w : World) (i : Nat), i < w.heap.size → (l.foldl World.alloc w).heap[i]? = w.heap[i]?
  | [], w, i, _ => rfl
  | a :: r, w, i, h => by
    rw [List.foldl_cons, allocs_old r _ i (by simp; omega)]
    exact heap_alloc_old _ _ h
theorem allocs_get : ∀ (l : List Obj) (w : World) (k : Nat) (o : Obj), l[k]? = some o → (l.foldl World.alloc w).heap[w.heap.size + k]? = some o
  | [], w, k, o, h => by simp at h
  | a :: r, w, 0, o, h => by
    obtain rfl : a = o := by simpa using h
    rw [List.foldl_cons, allocs_old r _ _ (by simp)]
    exact heap_alloc_new _ _
  | a :: r, w, k + 1, o, h => by
    rw [List.foldl_cons]
    have := allocs_get r (w.alloc a) k o (by simpa using h)
    rwa [show (w.alloc a).heap.size + k = w.heap.size + (k + 1) by simp; omega] at this
theorem allocs_below : ∀ (l : List Obj) (w0 w : World), Below w0.heap.size w0 w → Below w0.heap.size w0 (l.foldl World.alloc w)
  | [], w0, w, h => h
  | a :: r, w0, w, h => allocs_below r w0 _ (h.alloc h.size _)
theorem allocs_size : ∀ (l : List Obj) (w : World), (l.foldl World.alloc w).heap.size = w.heap.size + l.length
  | [], w => rfl
  | a :: r, w => by
    rw [List.foldl_cons, allocs_size r, List.length_cons]
    simp
    omega
/-- A row that lies in a block of its own. -/
theorem rowL_lit {α : Type} {f : α → List Value} {k : Nat} (hk : ∀ x, (f x).length = k) {w : World} {g : Nat} {T : TypeId} {fr : Nat × Nat} {l : List α} (h : w.heap[g]? = some (.cells (cellsC f l).toArray T fr)) : RowL k f w (some ⟨g, 0, none⟩) l :=
  .inr ⟨g, 0, rfl, heap_lt h, fun i x hx j v hj => by
    rw [cell_of_row _ _ _ _ _ _ h, List.getElem?_toArray, Nat.zero_add, cellsC_get hk l i j x hx (by rw [← hk x]; exact (List.getElem?_eq_some_iff.1 hj).1)]
    exact hj⟩
def lgB (t : Tl) : Obj := .cells (cellsC lgC t.longs).toArray 248
def sl (b n : Nat) : Value := .slice (some ⟨b, 0, none⟩) n n
def pairsL (b : Nat) : List (Tl × Value) := [(t_ls, sl b 4), (t_stat, sl (b + 1) 2), (t_du, sl (b + 2) 3), (t_df, .slice none 0 0), (t_tree, sl (b + 3) 1), (t_readlink, sl (b + 4) 1), (t_realpath, sl (b + 5) 1)]
def tlP (p : Tl × Value) : List Value := tlC p.1 p.2
def objsL (b : Nat) : List Obj := [lgB t_ls, lgB t_stat, lgB t_du, lgB t_tree, lgB t_readlink, lgB t_realpath, .cells (cellsC tlP (pairsL b)).toArray 117]
theorem tools_lie (w : World) : ToolsAt ((objsL w.heap.size).foldl World.alloc w) w.heap.size (w.heap.size + 6) ∧ Below w.heap.size w ((objsL w.heap.size).foldl World.alloc w) := by
  have hg := fun k o h => allocs_get (objsL w.heap.size) w k o h
  have hs := allocs_size (objsL w.heap.size) w
  have hb := allocs_below (objsL w.heap.size) w w (Below.refl _ _)
  generalize (objsL w.heap.size).foldl World.alloc w = W at hg hs hb
  refine ⟨⟨by rw [hs]; show _ < _ + 7; omega, fun i t ht => ?_⟩, hb⟩
  have hr : RowL 7 tlP W (some ⟨w.heap.size + 6, 0, none⟩) (pairsL w.heap.size) := rowL_lit (f := tlP) (fun _ => rfl) (hg 6 (.cells (cellsC tlP (pairsL w.heap.size)).toArray 117) rfl)
  have hm : toolsL = (pairsL w.heap.size).map (·.1) := rfl
  rw [hm, List.getElem?_map] at ht
  obtain ⟨⟨t', lv⟩, hp, rfl⟩ := Option.map_eq_some_iff.1 ht
  obtain ⟨g, o, e, _, hra⟩ := hr.at_ hp
  simp only [Option.some.injEq, Addr.mk.injEq] at e
  obtain ⟨rfl, rfl, _⟩ := e
  rw [Nat.zero_add] at hra
  refine ⟨lv, hra, ?_⟩
  have hmem := List.mem_of_getElem? hp
  simp only [pairsL, List.mem_cons, List.not_mem_nil, or_false, Prod.mk.injEq] at hmem
  have one : ∀ (k : Nat) (t : Tl), (objsL w.heap.size)[k]? = some (lgB t) → LongsAt W t (sl (w.heap.size + k) t.longs.length) ∧ ∀ j, (sl (w.heap.size + k) t.longs.length).ownBlock = some j → w.heap.size ≤ j := fun k t h => ⟨⟨_, rfl, rowL_lit lgC_len (hg k _ h)⟩, fun j hj => by have : w.heap.size + k = j := Option.some.inj hj; omega⟩
  rcases hmem with ⟨rfl, rfl⟩ | ⟨rfl, rfl⟩ | ⟨rfl, rfl⟩ | ⟨rfl, rfl⟩ | ⟨rfl, rfl⟩ | ⟨rfl, rfl⟩ | ⟨rfl, rfl⟩
  · exact one 0 t_ls rfl
  · exact one 1 t_stat rfl
  · exact one 2 t_du rfl
  · exact ⟨⟨none, rfl, RowL.nil _ _⟩, fun j hj => by cases hj⟩
  · exact one 3 t_tree rfl
  · exact one 4 t_readlink rfl
  · exact one 5 t_realpath rfl
set_option maxRecDepth 100000 in
set_option maxHeartbeats 8000000 in
theorem tools_any (w : World) : Calls Tryz.prog 104 #[] w fun e w' => ∃ g, e = .returned (.slice (some ⟨g, 0, none⟩) 7 7) ∧ ToolsAt w' w.heap.size g ∧ Below w.heap.size w w' := by
  have HT := Lib.hid (tools_lie w)
  go_enter Tryz.func104, Tryz.ntmps104
  go_wp2_with fail
  go_ret
  exact ⟨w.heap.size + 6, rfl, HT.out⟩

/-! ### named -/
def zTl : Array Value := #[.string ⟨#[]⟩, .string ⟨#[]⟩, .string ⟨#[]⟩, .string ⟨#[]⟩, .slice none 0 0, .int .i64 0, .nilFunc]
/-- The tool that the first argument names. -/
def foundM : List ByteArray → Option Tl
  | [] => none
  | a :: _ => toolsL.find? fun t => decide (t.name = a)
end Go.Proofs.YtknfhphhcnbndaaGreatDoor.Z

namespace Go.Proofs.YtknfhphhcnbndaaGreatDoor.Z
open Go.Proofs.YtknfhphhcnbndaaGreatDoor.A
open Go.Proofs.YtknfhphhcnbndaaGreatDoor.B
open Go.RowKit

theorem sizeTl : (Tryz.prog.info? 117).map (·.size) = some 7 := by kernel_rfl
def tlV (t : Tl) (lv : Value) : Value := .agg #[.string t.name, .string t.flags, .string t.numbers, .string t.texts, lv, .int .i64 t.alone, .func (.func t.fn) #[] #[]]
def NamedR (args : List ByteArray) (e : Ending) (w' : World) : Prop := match foundM args with
  | none => e = .returned (.tuple #[.agg zTl, .bool false])
  | some t => ∃ lv, e = .returned (.tuple #[tlV t lv, .bool true]) ∧ LongsAt w' t lv
theorem tools_find {a : ByteArray} {i : Nat} {t : Tl} (ht : toolsL[i]? = some t) (hn : t.name = a) (h : ∀ (j : Nat) (x : Tl), j < i → toolsL[j]? = some x → x.name ≠ a) : toolsL.find? (fun t => decide (t.name = a)) = some t := by
  rw [List.find?_eq_some_iff_getElem]
  obtain ⟨hi, e⟩ := List.getElem?_eq_some_iff.1 ht
  refine ⟨decide_eq_true hn, i, hi, e, fun j hj => ?_⟩
  have := h j _ hj (List.getElem?_eq_getElem (by omega))
  simpa using this
def NmRel (a : ByteArray) (w5 : World) (v : Value) (wr : World) : Prop := ∃ i : Nat, i ≤ 7 ∧ v = .int .i64 (i : Int) ∧ Hid (∀ (j : Nat) (x : Tl), j < i → toolsL[j]? = some x → x.name ≠ a) ∧ Hid (Below w5.heap.size w5 wr)
theorem tl_one {t : Tl} {o : Option Addr} {n c : Nat} : (#[.string t.name, .string t.flags, .string t.numbers, .string t.texts, .slice o n c, .int .i64 t.alone, .func (.func t.fn) #[] #[]] : Array Value).all (·.oneCell') = true := by simp [Value.oneCell']
set_option maxRecDepth 100000 in
set_option maxHeartbeats 8000000 in
theorem named_any (args : List ByteArray) (la : Option Addr) (lc : Nat) (w : World) (H : TxtL w la args) (hn : args.length ≤ 1000000) :
    Calls Tryz.prog 53 #[.slice la args.length lc] w fun e w' => NamedR args e w' ∧ Below w.heap.size w w' := by
  have HA := Lib.hid ((Below.refl w.heap.size w).alloc (Nat.le_refl _) (.cells zTl 117))
  have HX := Lib.hid (heap_alloc_new w (.cells zTl 117))
  unfold zTl at HA HX
  have HL := Lib.hid H
  clear H
  cases args with
  | nil =>
    go_enter Tryz.func53, Tryz.ntmps53
    go_wp2_with fail
    refine bodyPost_ret (v := .tuple #[.agg zTl, .bool false]) ?_ rfl ⟨rfl, HA.out⟩
    exact results_pair Tryz.results53 _ _ w.heap.size _ _ _ _ _ rfl rfl HX.out Tryz.underlying117 rfl sizeTl
  | cons a r =>
    have e0 : (((r.length + 1 : Nat) : Int) == 0) = false := beq_eq_false_iff_ne.2 (by omega)
    rw [List.length_cons] at hn ⊢
    have HTs := Lib.hid (fun (X : World) => tools_any X)
    go_enter Tryz.func53, Tryz.ntmps53
    go_wp2_with (go_at_call 104; refine (HTs.out _).mono ?_; rintro e w5 ⟨g, rfl, hT, hb5⟩; have HT := Lib.hid hT; have HB5 := Lib.hid (HA.out.trans (hb5.mono HA.out.size)); have HX5 := Lib.hid ((hb5.block _ (heap_lt HX.out)).trans HX.out); clear hT hb5)
    go_loopw [12] (NmRel a w5) (fun v _ => 7 - (intOf v).toNat)
    case atStart => exact ⟨0, by omega, rfl, Lib.hid (fun j x hj => by omega), Lib.hid (Below.refl _ _)⟩
    case round =>
      obtain ⟨i, hi, rfl, HNo, HBr⟩ := hrel
      by_cases hlt : i < 7
      · have e1 : decide ((i : Int) < 7) = true := decide_eq_true (by omega)
        obtain ⟨t, ht⟩ : ∃ t, toolsL[i]? = some t := ⟨_, List.getElem?_eq_getElem (by exact hlt)⟩
        have HTi := Lib.hid ht
        obtain ⟨lv, hra, hlg, hlb⟩ := HT.out.2 i t ht
        obtain ⟨lo, lvs, hlr⟩ := hlg
        subst lvs
        have HLb := Lib.hid (show ∀ k, Value.ownBlock (.slice lo t.longs.length t.longs.length) = some k → k ≠ w.heap.size from fun k hk e => by have := hlb k hk; simp at this; omega)
        have HRg := Lib.hid (show wr.rangeAt g (i * 7) (tlC t (.slice lo t.longs.length t.longs.length)) from fun j v hj => (HBr.out.cell (p := ⟨g, _, none⟩) HT.out.1).trans (hra j v hj))
        have HLg := Lib.hid (fun (X : World) (hb : Below w5.heap.size w5 X) => (show LongsAt X t (.slice lo t.longs.length t.longs.length) from ⟨lo, rfl, hlr.keep hb⟩))
        unfold tlC at HRg
        clear ht hra hlr hlb
        go_upto_region 6 with (refine wpList_load_mid rfl 117 (.tmp 14) rfl g (i * 7) rfl _ _ HRg.out Tryz.underlying117 rfl sizeTl ?_)
        have HA8 := Lib.hid (show Below wr.heap.size wr (wr.alloc (.cells [.string t.name, .string t.flags, .string t.numbers, .string t.texts, .slice lo t.longs.length t.longs.length, .int .i64 t.alone, .func (.func t.fn) #[] #[]].toArray 117)) from (Below.refl _ _).alloc (Nat.le_refl _) _)
        have HX8 := Lib.hid (heap_alloc_new wr (.cells [.string t.name, .string t.flags, .string t.numbers, .string t.texts, .slice lo t.longs.length t.longs.length, .int .i64 t.alone, .func (.func t.fn) #[] #[]].toArray 117))
        generalize wr.alloc (.cells _ 117) = w8 at HA8 HX8 ⊢
        have HB8 := Lib.hid (HBr.out.trans (HA8.out.mono HBr.out.size))
        have HB9 := Lib.hid (HB5.out.trans (HB8.out.mono HB5.out.size))
        generalize wr.heap.size = B8 at HX8 ⊢
        clear HA8 HRg HBr
        have HXz := Lib.hid ((HB8.out.block _ (heap_lt HX5.out)).trans HX5.out)
        have c0 : w8.cell? ⟨B8, 0, none⟩ = some (.string t.name) := by rw [cell_of_row _ _ _ _ _ _ HX8.out]; rfl
        obtain ⟨ga, oa, rfl, _, hr0, _⟩ := (HL.out.keep HB9.out).tail
        have c1 : w8.cell? ⟨ga, oa, none⟩ = some (.string a) := hr0 0 _ rfl
        have hge : ¬ (((r.length + 1 : Nat) : Int) ≤ 0) := by omega
        clear hr0
        by_cases hn2 : t.name = a
        · have e2 := txt_eq hn2
          have HF := Lib.hid (show foundM (a :: r) = some t from tools_find HTi.out hn2 HNo.out)
          clear hn2
          go_quiet (fail)
          have HXa := Lib.hid (show (w8.drewN nq).heap[B8]? = _ from HX8.out)
          have HXb := Lib.hid (show (w8.drewN nq).heap[w.heap.size]? = _ from HXz.out)
          have HBn := Lib.hid (show Below w.heap.size w (w8.drewN nq) from below_drewNb HB9.out)
          have HLn := Lib.hid (HLg.out (w8.drewN nq) (below_drewNb HB8.out))
          generalize w8.drewN nq = w9 at HXa HXb HBn HLn ⊢
          go_wp2_with (first
            | (refine wpList_load_row rfl 117 (.tmp 5) rfl B8 rfl 117 _ (0, 0) _ HXa.out Tryz.underlying117 rfl sizeTl ?_)
            | (refine wpList_store_row rfl 117 (.tmp 2) (.tmp 22) rfl w.heap.size #[.string t.name, .string t.flags, .string t.numbers, .string t.texts, .slice lo t.longs.length t.longs.length, .int .i64 t.alone, .func (.func t.fn) #[] #[]] rfl rfl _ _ HXb.out sizeTl rfl tl_one ?_))
          have HXc := Lib.hid (setRow_heap w9 w.heap.size _ #[.string t.name, .string t.flags, .string t.numbers, .string t.texts, .slice lo t.longs.length t.longs.length, .int .i64 t.alone, .func (.func t.fn) #[] #[]] _ _ HXb.out)
          refine bodyPost_ret (v := .tuple #[tlV t (.slice lo t.longs.length t.longs.length), .bool true]) ?_ rfl ⟨?_, below_setRow HBn.out (Nat.le_refl _) _⟩
          · exact results_pair Tryz.results53 _ _ w.heap.size _ _ _ _ _ rfl rfl HXc.out Tryz.underlying117 rfl sizeTl
          · unfold NamedR
            rw [HF.out]
            refine ⟨_, rfl, ?_⟩
            obtain ⟨l1, h1, h2⟩ := HLn.out
            refine ⟨l1, h1, ?_⟩
            rcases h2 with h2 | ⟨g2, o2, q1, q2, q3⟩
            · exact .inl h2
            · refine .inr ⟨g2, o2, q1, by rw [World.setRow]; simpa using q2, fun i2 x2 hx2 j2 v2 hv2 => ?_⟩
              have hne : g2 ≠ w.heap.size := by
                simp only [Value.slice.injEq] at h1
                obtain ⟨rfl, _⟩ := h1
                subst q1
                exact HLb.out g2 rfl
              exact (show (w9.setRow w.heap.size _).cell? ⟨g2, _, none⟩ = w9.cell? ⟨g2, _, none⟩ from by unfold World.cell?; rw [setRow_other _ _ _ _ hne]).trans (q3 i2 x2 hx2 j2 v2 hv2)
        · have e2 := (txt_ne hn2).2.1
          have HN := Lib.hid (show ∀ (j : Nat) (x : Tl), j < i + 1 → toolsL[j]? = some x → x.name ≠ a from fun j x hj hx => by
            rcases Nat.lt_or_ge j i with q | q
            · exact HNo.out j x q hx
            · obtain rfl : j = i := by omega
              rw [HTi.out] at hx
              obtain rfl := Option.some.inj hx
              exact hn2)
          clear hn2
          go_quiet (fail)
          have HBq := Lib.hid (show Below w5.heap.size w5 (w8.drewN nq) from below_drewNb HB8.out)
          generalize w8.drewN nq = w9 at HBq ⊢
          go_wp2_with fail
          go_roundw
          case rel => exact ⟨i + 1, by omega, by simp, HN, HBq⟩
          case measure => simp [intOf]; omega
      · have hi7 : i = 7 := by omega
        subst hi7
        have HF := Lib.hid (show foundM (a :: r) = none from by
          rw [show foundM (a :: r) = toolsL.find? (fun t => decide (t.name = a)) from rfl, List.find?_eq_none]
          intro y hy
          obtain ⟨j, hj⟩ := List.mem_iff_getElem?.1 hy
          have := HNo.out j y (by have := (List.getElem?_eq_some_iff.1 hj).1; exact this) hj
          simpa using this)
        have HXz := Lib.hid ((HBr.out.block _ (heap_lt HX5.out)).trans HX5.out)
        have HB7 := Lib.hid (HB5.out.trans (HBr.out.mono HB5.out.size))
        go_wp2_with (refine wpList_store_row rfl 117 (.tmp 2) (.tmp 24) rfl w.heap.size #[.string ⟨#[]⟩, .string ⟨#[]⟩, .string ⟨#[]⟩, .string ⟨#[]⟩, .slice none 0 0, .int .i64 0, .nilFunc] rfl rfl _ _ HXz.out sizeTl rfl (by simp [Value.oneCell']) ?_)
        have HXc := Lib.hid (setRow_heap wr w.heap.size _ #[.string ⟨#[]⟩, .string ⟨#[]⟩, .string ⟨#[]⟩, .string ⟨#[]⟩, .slice none 0 0, .int .i64 0, .nilFunc] _ _ HXz.out)
        refine bodyPost_ret (v := .tuple #[.agg zTl, .bool false]) ?_ rfl ⟨by unfold NamedR; rw [HF.out], below_setRow HB7.out (Nat.le_refl _) _⟩
        exact results_pair Tryz.results53 _ _ w.heap.size _ _ _ _ _ rfl rfl HXc.out Tryz.underlying117 rfl sizeTl
end Go.Proofs.YtknfhphhcnbndaaGreatDoor.Z
