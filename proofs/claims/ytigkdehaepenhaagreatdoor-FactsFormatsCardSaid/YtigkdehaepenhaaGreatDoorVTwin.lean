/-
  What the reference's Do returns: the model's change, its number, its error. Conditions: at most 1000000 nodes and entries, texts of at most 1000000 bytes; the reference's entries are the model's.
  Changes that came in as a slice; what the reference's Few returns. Conditions: at most 1000000000 changes, texts that fit.
  The model stays small: a change makes at most one entry and one link more. Conditions: none.
  The program's file system and the reference's side by side, of the same nodes: neither's change touches the other's blocks. Conditions: each fact's own.
-/
import Derived.Test.YtigkdehaepenhaaGreatDoorVRefDo1
import Derived.Test.YtigkdehaepenhaaGreatDoorVRefDo2
import Derived.Test.YtigkdehaepenhaaGreatDoorVRefDo3
import Derived.Test.YtigkdehaepenhaaGreatDoorVRefDo8
import Derived.Test.YtigkdehaepenhaaGreatDoorVRefDo7
import Derived.Test.YtigkdehaepenhaaGreatDoorVDevM
set_option linter.unusedVariables false
namespace Go.Proofs.YtigkdehaepenhaaGreatDoor.V
open Go.RowKit

theorem rdo_any (M : List Nd) (L : List It) (v : Rv) (c : Chg) (w : World) (H : Rs M L v w) (R : Rel M L) (hI : DevInv M) (hM : M.length ≤ 1000000) (hL : L.length ≤ 1000000) (hn : 0 < M.length) (hs : c.name.size ≤ 1000000) (hts : c.text.size ≤ 1000000) (hc : c.n ≤ 9223372036854775807) :
    Calls Tryz.prog 20 #[rvV v, chgV c] w (RDoP M L c w) := by
  by_cases hw : wrongM M c = 0
  · rcases wrong_cases hw with ⟨x, hx, hk, hl⟩ | ⟨k2, x, y, hx, hy, _⟩ | ⟨k7, hl, y, hy⟩ | ⟨hk, y, hy⟩
    · obtain ⟨i, hi, hxi⟩ := atM_some hx
      rcases hk with k0 | ⟨k1, hn0⟩ | k3
      · exact rdo_add0 M L v c w H R hM hL hn hs hts hw k0 i x hi hxi
      · exact rdo_add1 M L v c w H R hM hL hn hs hts hw hn0 hc k1 i x hi hxi
      · exact rdo_add3 M L v c w H R hM hL hn hs hts hw k3 i x hi hxi
    · obtain ⟨i, hi, hxi⟩ := atM_some hx
      obtain ⟨j, hj, hyj⟩ := atM_some hy
      exact rdo_share M L v c w H R hM hL hn hs hts hw k2 i x hi hxi j hj (List.getElem?_eq_some_iff.1 hyj).1
    · obtain ⟨j, hj, hyj⟩ := atM_some hy
      exact rdo_cover M L v c w H R hM hL hn hs hts hw k7 j y hj hyj hI
    · obtain ⟨j, hj, hyj⟩ := atM_some hy
      rcases hk with k4 | k5 | ⟨k6, h6⟩ | k8
      · exact rdo_set4 M L v c w H R hM hL hn hs hts hw k4 j y hj hyj (fun e => by omega)
      · exact rdo_set5 M L v c w H R hM hL hn hs hts hw k5 j y hj hyj (fun e => by omega)
      · exact rdo_set6 M L v c w H R hM hL hn hs hts hw k6 j y hj hyj (fun _ => h6)
      · exact rdo_set8 M L v c w H R hM hL hn hs hts hw k8 j y hj hyj (fun e => by omega)
  · exact rdo_refused M L v c w H R hM hL hn hs hts hw
end Go.Proofs.YtigkdehaepenhaaGreatDoor.V

namespace Go.Proofs.YtigkdehaepenhaaGreatDoor.V
open Go.RowKit

def chgL (c : Chg) : List Value := [.int .i64 c.kind, .int .i64 c.at_, .int .i64 c.to, .string c.name, .string c.text, .int .i64 c.a, .int .i64 c.b, .int .i64 c.n]
/-- The slice at a holds these changes. -/
def IsChgs (w : World) (a : Option Addr) (cs : List Chg) : Prop := cs = [] ∨ ∃ g o, a = some ⟨g, o, none⟩ ∧ ∀ (k : Nat) (c : Chg), cs[k]? = some c → w.rangeAt g (o + k * 8) (chgL c)
theorem IsChgs.keep {w w' : World} {a : Option Addr} {cs : List Chg} (h : IsChgs w a cs) (hb : Below w.heap.size w w') : IsChgs w' a cs := by
  rcases h with h | ⟨g, o, h1, h2⟩
  · exact .inl h
  · exact .inr ⟨g, o, h1, fun k c hk j v hj => cell_keep (h2 k c hk j v hj) hb⟩
theorem IsChgs.at_ {w : World} {a : Option Addr} {cs : List Chg} (h : IsChgs w a cs) {k : Nat} {c : Chg} (hk : cs[k]? = some c) : ∃ g o, a = some ⟨g, o, none⟩ ∧ w.rangeAt g (o + k * 8) (chgL c) := by
  rcases h with h | ⟨g, o, h1, h2⟩
  · rw [h] at hk; simp at hk
  · exact ⟨g, o, h1, h2 k c hk⟩
def smallC (c : Chg) : Prop := c.name.size ≤ 300 ∧ c.text.size ≤ 5000
def FewL (cs : List Chg) : Prop := ∀ (k : Nat) (c : Chg), k < 400 → cs[k]? = some c → smallC c
def FewRel (cs : List Chg) (w : World) (v : Value) (wr : World) : Prop := ∃ k : Nat, k ≤ cs.length ∧ k ≤ 400 ∧ v = .int .i64 (k : Int) ∧ wr = w ∧ Hid (∀ (j : Nat) (c : Chg), j < k → cs[j]? = some c → smallC c)

set_option maxRecDepth 100000 in
set_option maxHeartbeats 4000000 in
theorem few_any (cs : List Chg) (a : Option Addr) (cap : Nat) (n : Int) (w : World) (H : IsChgs w a cs) (hl : cs.length ≤ 9223372036854775807) (hz : ∀ c ∈ cs, c.name.size ≤ 9223372036854775807 ∧ c.text.size ≤ 9223372036854775807) :
    Calls Tryz.prog 7 #[.slice a cs.length cap, .int .i64 n] w fun e w' => ∃ b : Bool, e = .returned (.bool b) ∧ (b = true ↔ FewL cs ∧ (cs.length : Int) ≤ n) ∧ w' = w := by
  have HH := Lib.hid H
  have HZ := Lib.hid hz
  clear H hz
  go_enter Tryz.func7, Tryz.ntmps7
  go_wp2_with fail
  go_loopw [5] (FewRel cs w) (fun v _ => cs.length - (intOf v).toNat)
  case atStart => exact ⟨0, Nat.zero_le _, by omega, rfl, rfl, Lib.hid (fun j c hj => by omega)⟩
  case round =>
    obtain ⟨k, hk, hk4, rfl, rfl, hno⟩ := hrel
    by_cases hlt : k < cs.length
    · have d1 : decide ((k : Int) < (cs.length : Int)) = true := decide_eq_true (by omega)
      by_cases h4 : k < 400
      · have d2 : decide ((k : Int) < 400) = true := decide_eq_true (by omega)
        obtain ⟨c, hc⟩ : ∃ c, cs[k]? = some c := ⟨_, List.getElem?_eq_getElem hlt⟩
        obtain ⟨g, o, rfl, hr⟩ := HH.out.at_ hc
        have n3 : wr.cell? ⟨g, o + k * 8 + 3, none⟩ = some (.string c.name) := hr 3 _ rfl
        have n4 : wr.cell? ⟨g, o + k * 8 + 4, none⟩ = some (.string c.text) := hr 4 _ rfl
        have HCc := Lib.hid hc
        obtain ⟨z1, z2⟩ := HZ.out c (List.mem_of_getElem? hc)
        clear hr hc
        by_cases hn : 300 < c.name.size
        · have e1 : decide ((300 : Int) < (c.name.size : Int)) = true := decide_eq_true (by omega)
          have HB := Lib.hid (show ¬ (FewL cs ∧ (cs.length : Int) ≤ n) from fun e => by have := (e.1 k c h4 HCc.out).1; omega)
          go_wp2_with fail
          go_ret
          exact ⟨false, rfl, ⟨(fun e => absurd e (by decide)), fun e => absurd e HB.out⟩, rfl⟩
        · have e1 : decide ((300 : Int) < (c.name.size : Int)) = false := decide_eq_false (by omega)
          by_cases ht : 5000 < c.text.size
          · have e2 : decide ((5000 : Int) < (c.text.size : Int)) = true := decide_eq_true (by omega)
            have HB := Lib.hid (show ¬ (FewL cs ∧ (cs.length : Int) ≤ n) from fun e => by have := (e.1 k c h4 HCc.out).2; omega)
            go_wp2_with fail
            go_ret
            exact ⟨false, rfl, ⟨(fun e => absurd e (by decide)), fun e => absurd e HB.out⟩, rfl⟩
          · have e2 : decide ((5000 : Int) < (c.text.size : Int)) = false := decide_eq_false (by omega)
            have HN := Lib.hid (show ∀ (j : Nat) (c : Chg), j < k + 1 → cs[j]? = some c → smallC c from fun j c' hj hj' => by
              rcases Nat.lt_or_ge j k with q | q
              · exact hno.out j c' q hj'
              · obtain rfl : j = k := by omega
                rw [HCc.out] at hj'
                obtain rfl := Option.some.inj hj'
                exact ⟨by omega, by omega⟩)
            go_wp2_with fail
            go_roundw
            case rel => exact ⟨k + 1, by omega, by omega, by simp, rfl, Lib.hid HN.out⟩
            case measure => simp [intOf]; omega
      · have d2 : decide ((k : Int) < 400) = false := decide_eq_false (by omega)
        have HF := Lib.hid (show FewL cs from fun j c hj hc => hno.out j c (by omega) hc)
        go_wp2_with fail
        go_ret
        exact ⟨decide ((cs.length : Int) ≤ n), rfl, ⟨fun e => ⟨HF.out, of_decide_eq_true e⟩, fun e => decide_eq_true e.2⟩, rfl⟩
    · have d1 : decide ((k : Int) < (cs.length : Int)) = false := decide_eq_false (by omega)
      have HF := Lib.hid (show FewL cs from fun j c hj hc => hno.out j c (by have := (List.getElem?_eq_some_iff.1 hc).1; omega) hc)
      go_wp2_with fail
      go_ret
      exact ⟨decide ((cs.length : Int) ≤ n), rfl, ⟨fun e => ⟨HF.out, of_decide_eq_true e⟩, fun e => decide_eq_true e.2⟩, rfl⟩
end Go.Proofs.YtigkdehaepenhaaGreatDoor.V

namespace Go.Proofs.YtigkdehaepenhaaGreatDoor.V
open Go.RowKit

def Few2 (a b : Nat) (n : Nd) : Prop := 0 ≤ n.links ∧ n.links ≤ 2 + (a : Int) ∧ n.ents.length ≤ b
theorem all_modify {M : List Nd} {i : Nat} {f : Nd → Nd} {P P' : Nd → Prop} (h : ∀ n ∈ M, P n) (h1 : ∀ n, P n → P' n) (h2 : ∀ n, P n → P' (f n)) : ∀ n ∈ M.modify i f, P' n := by
  intro n hn
  obtain ⟨j, hj⟩ := List.mem_iff_getElem?.1 hn
  rw [List.getElem?_modify] at hj
  cases hm : M[j]? with
  | none => rw [hm] at hj; cases hj
  | some x =>
    rw [hm] at hj
    have hx := h x (List.mem_of_getElem? hm)
    have e : (if i = j then f x else x) = n := Option.some.inj hj
    rw [← e]
    split
    · exact h2 x hx
    · exact h1 x hx
theorem few_ent {M : List Nd} {a b i : Nat} {s : ByteArray} {id : Int} (h : ∀ n ∈ M, Few2 a b n) : ∀ n ∈ M.modify i (addEnt s id), Few2 a (b + 1) n :=
  all_modify h (fun n hn => ⟨hn.1, hn.2.1, by have := hn.2.2; omega⟩) (fun n hn => ⟨hn.1, hn.2.1, by show (n.ents ++ [(s, id)]).length ≤ _; have := hn.2.2; simp; omega⟩)
theorem few_link {M : List Nd} {a b i : Nat} (h : ∀ n ∈ M, Few2 a b n) : ∀ n ∈ M.modify i moreLinks, Few2 (a + 1) b n :=
  all_modify h (fun n hn => ⟨hn.1, by have := hn.2.1; omega, hn.2.2⟩) (fun n hn => ⟨by show 0 ≤ n.links + 1; have := hn.1; omega, by show n.links + 1 ≤ _; have := hn.2.1; omega, hn.2.2⟩)
theorem few_app {M : List Nd} {a b : Nat} {x : Nd} (h : ∀ n ∈ M, Few2 a b n) (hx : Few2 a b x) : ∀ n ∈ M ++ [x], Few2 a b n := fun n hn => by
  rcases List.mem_append.1 hn with q | q
  · exact h n q
  · obtain rfl : n = x := by simpa using q
    exact hx
theorem few_same {M : List Nd} {a b i : Nat} {f : Nd → Nd} (hf : ∀ n, (f n).links = n.links ∧ (f n).ents = n.ents) (h : ∀ n ∈ M, Few2 a b n) : ∀ n ∈ M.modify i f, Few2 a b n :=
  all_modify h (fun n hn => hn) (fun n hn => by unfold Few2; rw [(hf n).1, (hf n).2]; exact hn)
theorem few_more {a b : Nat} {n : Nd} (h : Few2 a b n) : Few2 (a + 1) (b + 1) n := ⟨h.1, by have := h.2.1; omega, by have := h.2.2; omega⟩
theorem small_few {M : List Nd} {k : Nat} (h : Small M k) : ∀ n ∈ M, Few2 k k n := fun n hn => h.2 n hn
theorem setNd_few (c : Chg) (n : Nd) : (setNd c n).links = n.links ∧ (setNd c n).ents = n.ents := by
  unfold setNd
  repeat' split
  all_goals exact ⟨rfl, rfl⟩
theorem small_built {M : List Nd} {k i : Nat} {s : ByteArray} {n : Nd} {d : Int} (h : Small M k) (hl : M.length < 300) (hn : n.ents = []) (h0 : 0 ≤ n.links) (h2 : n.links ≤ 2) : Small (builtM M i s n d) (k + 1) := by
  unfold builtM
  refine ⟨by rw [List.length_modify, List.length_modify, List.length_append]; simp; omega, ?_⟩
  exact few_link (few_ent (few_app (small_few h) ⟨h0, by show n.links ≤ _; omega, by show n.ents.length ≤ _; rw [hn]; simp⟩))
theorem small_do {M : List Nd} {c : Chg} {k : Nat} (h : Small M k) : Small (doM M c) (k + 1) := by
  have hmore : Small M (k + 1) := ⟨h.1, fun n hn => few_more (small_few h n hn)⟩
  unfold doM
  split
  · rename_i hw
    rcases wrong_cases hw with ⟨x, hx, hk, hl⟩ | ⟨k2, x, y, hx, hy, _⟩ | ⟨k7, hl, y, hy⟩ | ⟨hk, y, hy⟩
    · unfold carryM
      rcases hk with k0 | ⟨k1, _⟩ | k3
      · rw [if_pos k0]; exact small_built h hl rfl (by show (0 : Int) ≤ 2; decide) (by show (2 : Int) ≤ 2; decide)
      · rw [if_neg (by omega), if_pos k1]; exact small_built h hl rfl (by show (0 : Int) ≤ 0; decide) (by show (0 : Int) ≤ 2; decide)
      · rw [if_neg (by omega), if_neg (by omega), if_neg (by omega), if_pos k3]; exact small_built h hl rfl (by show (0 : Int) ≤ 0; decide) (by show (0 : Int) ≤ 2; decide)
    · unfold carryM
      rw [if_neg (by omega), if_neg (by omega), if_pos k2]
      refine ⟨by rw [List.length_modify, List.length_modify]; exact h.1, ?_⟩
      exact few_link (few_ent (small_few h))
    · unfold carryM
      rw [if_neg (by omega), if_neg (by omega), if_neg (by omega), if_neg (by omega), if_pos k7]
      unfold coveredM
      refine ⟨by rw [List.length_modify, List.length_append]; simp; omega, ?_⟩
      exact few_same (fun n => ⟨rfl, rfl⟩) (few_app hmore.2 ⟨by show (0 : Int) ≤ 2; decide, by show (2 : Int) ≤ _; omega, by show ([] : List (ByteArray × Int)).length ≤ _; simp⟩)
    · unfold carryM
      rw [if_neg (by omega), if_neg (by omega), if_neg (by omega), if_neg (by omega), if_neg (by omega)]
      refine ⟨by rw [List.length_modify]; exact h.1, ?_⟩
      exact few_same (setNd_few c) hmore.2
  · exact hmore
theorem len_do {M : List Nd} {c : Chg} (h : 0 < M.length) : 0 < (doM M c).length := by
  unfold doM
  split
  · unfold carryM builtM coveredM
    repeat' split
    all_goals simp
    all_goals omega
  · exact h
end Go.Proofs.YtigkdehaepenhaaGreatDoor.V

namespace Go.Proofs.YtigkdehaepenhaaGreatDoor.V
open Go.RowKit

theorem foot_type {h : Fsh} {w : World} (H : Fs h w) {k : Nat} (hk : h.foot k) : ∃ cur T, w.heap[k]? = some (.cells cur T (0, 0)) ∧ (T = 88 ∨ T = 92 ∨ T = 100) := by
  rcases hk with rfl | hk | ⟨x, hx, hk⟩
  · exact ⟨_, _, H.head, .inl rfl⟩
  · obtain ⟨cur, hc⟩ := owns_type H.own hk
    exact ⟨cur, _, hc, .inr (.inl rfl)⟩
  · obtain ⟨cur, hc⟩ := owns_type (H.ents x hx) hk
    exact ⟨cur, _, hc, .inr (.inr rfl)⟩
/-- All blocks but those of a file system's kinds are as they were. -/
def Keeps (w w' : World) : Prop := ∀ (k : Nat) (cs : Array Value) (T : TypeId), w.heap[k]? = some (.cells cs T (0, 0)) → T ≠ 88 → T ≠ 92 → T ≠ 100 → w'.heap[k]? = some (.cells cs T (0, 0))
theorem Grew.keeps {h h' : Fsh} {w w' : World} (G : Grew h h' w w') (H : Fs h w) : Keeps w w' := fun k cs T hk h1 h2 h3 => (G.kept k (heap_lt hk) fun q => by
  obtain ⟨cur, T', hc, hT⟩ := foot_type H q
  rw [hk] at hc
  simp only [Option.some.injEq, Obj.cells.injEq, and_true] at hc
  obtain ⟨_, rfl⟩ := hc
  rcases hT with e | e | e
  · exact h1 e
  · exact h2 e
  · exact h3 e).trans hk
theorem Keeps.owns {w w' : World} (K : Keeps w w') {e : TypeId} {size n : Nat} {v : Value} {xs : List Value} (ho : w.ownsRow 0 e size v n xs) (h1 : e ≠ 88) (h2 : e ≠ 92) (h3 : e ≠ 100) : w'.ownsRow 0 e size v n xs :=
  owns_at ho fun k hk => by
    obtain ⟨cur, hc⟩ := owns_type ho hk
    rw [K k cur e hc h1 h2 h3, hc]
theorem Keeps.rs {w w' : World} (K : Keeps w w') {M : List Nd} {L : List It} {v : Rv} (H : Rs M L v w) : Rs M L v w' :=
  ⟨K.owns H.hn (by decide) (by decide) (by decide), K.owns H.hl (by decide) (by decide) (by decide), K.owns H.hc (by decide) (by decide) (by decide), K.owns H.hd (by decide) (by decide) (by decide), K.owns H.ha (by decide) (by decide) (by decide), K.owns H.hf (by decide) (by decide) (by decide)⟩

/-- One change of a file system made behind w0; all but its kinds of blocks is kept. -/
theorem has_do_keeps {w0 w : World} {p : Nat} {M : List Nd} {c : Chg} {k : Nat} (h : Has w0 p M w) (hS : Small M k) (hk : k ≤ 900000) (hn : 0 < M.length) (hc : -9223372036854775808 ≤ c.n ∧ c.n ≤ 9223372036854775807) :
    Calls Tryz.prog 19 #[.pointer (some ⟨p, 0, none⟩), chgV c] w fun e w' => e = .returned (.tuple #[.int .i64 (doR M c), .int .i64 (wrongM M c)]) ∧ Has w0 p (doM M c) w' ∧ Keeps w w' ∧ w.heap.size ≤ w'.heap.size := by
  obtain ⟨h, rfl, rfl, H, hb, hf⟩ := h
  have hml : h.M.length = h.X.length := List.length_map ..
  refine (do_any h c k w H hS hk (by omega) hc).mono ?_
  rintro e w' ⟨he, h', hp', hm', H', G'⟩
  exact ⟨he, ⟨h', hp', hm', H', hb.trans (G'.below hb.size hf), fun j hj => by rcases G'.new j hj with q | q; exact hf j q; exact Nat.le_trans hb.size q⟩, G'.keeps H, G'.size⟩

/-- The nodes behind the changes. -/
def runM : List Chg → List Nd → List Nd
  | [], M => M
  | c :: r, M => runM r (doM M c)
theorem runM_append : ∀ (a b : List Chg) (M : List Nd), runM (a ++ b) M = runM b (runM a M)
  | [], b, M => rfl
  | c :: r, b, M => by rw [List.cons_append, runM, runM, runM_append r b]
theorem runM_take {cs : List Chg} {k : Nat} {c : Chg} (hc : cs[k]? = some c) (M : List Nd) : runM (cs.take (k + 1)) M = doM (runM (cs.take k) M) c := by
  rw [List.take_add_one, hc, runM_append]
  rfl
theorem runM_small : ∀ (cs : List Chg) (M : List Nd) (k : Nat), Small M k → Small (runM cs M) (k + cs.length)
  | [], M, k, h => h
  | c :: r, M, k, h => by
    have := runM_small r (doM M c) (k + 1) (small_do h)
    rw [show k + 1 + r.length = k + (c :: r).length by rw [List.length_cons]; omega] at this
    exact this
theorem runM_dev : ∀ (cs : List Chg) (M : List Nd), DevInv M → DevInv (runM cs M)
  | [], M, h => h
  | c :: r, M, h => runM_dev r (doM M c) (devInv_do h)

/-- Both file systems, of the nodes M: the program's at the block p, made behind w0; the reference's the value v, of the entries L. -/
structure Twin (w0 : World) (p : Nat) (M : List Nd) (L : List It) (v : Rv) (w : World) : Prop where
  fs : Has w0 p M w
  rs : Rs M L v w
  rel : Rel M L
theorem Twin.keep {w0 w w' : World} {p : Nat} {M : List Nd} {L : List It} {v : Rv} (h : Twin w0 p M L v w) (hb : Below w.heap.size w w') : Twin w0 p M L v w' := ⟨h.fs.keep hb, h.rs.keep hb, h.rel⟩
theorem rel_new : Rel newM [] := by
  refine ⟨fun i x hx => ?_, fun x hx => ?_, fun e he => (by cases he), fun e he => (by cases he)⟩
  · match i, hx with
    | 0, hx => simp only [newM, List.getElem?_cons_zero, Option.some.injEq] at hx; subst hx; rfl
    | i + 1, hx => simp [newM] at hx
  · obtain rfl : x = addedNd (dirNd 493 0) 1 [] := by simpa [newM] using hx
    decide
theorem rs_new {w : World} {v : Rv} (h : ROwn w v 1 (addedNd (dirAt 1 493 0) 1 []).bare 0 [] 1 [.int .i64 (-1)] 1 [.bool false] 1 [.int .i64 0] 1 [.int .i64 0]) : Rs newM [] v w :=
  ⟨h.1, h.2.1, h.2.2.1, h.2.2.2.1, h.2.2.2.2.1, h.2.2.2.2.2⟩
end Go.Proofs.YtigkdehaepenhaaGreatDoor.V
