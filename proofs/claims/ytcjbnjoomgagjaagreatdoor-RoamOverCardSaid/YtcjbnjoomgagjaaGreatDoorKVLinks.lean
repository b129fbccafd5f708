/-
  What the reference's Do returns: the model's change, its number, its error. Conditions: at most 1000000 nodes and entries, texts of at most 1000000 bytes; the reference's entries are the model's.
-/
import Derived.Test.YtcjbnjoomgagjaaGreatDoorKVRefDo1
import Derived.Test.YtcjbnjoomgagjaaGreatDoorKVRefDo2
import Derived.Test.YtcjbnjoomgagjaaGreatDoorKVRefDo3
import Derived.Test.YtcjbnjoomgagjaaGreatDoorKVRefDo8
import Derived.Test.YtcjbnjoomgagjaaGreatDoorKVRefDo7
import Derived.Test.YtcjbnjoomgagjaaGreatDoorKVRefApp
set_option linter.unusedVariables false
namespace Go.Proofs.YtcjbnjoomgagjaaGreatDoor.V
open Go.RowKit
theorem rdo_any (M : List Nd) (L : List It) (v : Rv) (c : Chg) (w : World) (H : Rs M L v w) (R : Rel M L) (hI : DevInv M) (hM : M.length ≤ 1000000) (hL : L.length ≤ 1000000) (hn : 0 < M.length) (hs : c.name.size ≤ 1000000) (hts : c.text.size ≤ 1000000) (hc : c.n ≤ 9223372036854775807) :
    Calls Tryz.prog 22 #[rvV v, chgV c] w (RDoP M L c w) := by
  by_cases hw : wrongM M c = 0
  · rcases wrong_cases hw with ⟨x, hx, hk, hl⟩ | ⟨k2, x, y, hx, hy, _⟩ | ⟨k7, hl, y, hy⟩ | ⟨hk, y, hy⟩
    · obtain ⟨i, hi, hxi⟩ := atM_some hx
      rcases hk with k0 | ⟨k1, hn0⟩ | k3
      · exact rdo_add0 M L v c w H R hM hL hn hs hts hw k0 i x hi hxi
      · exact rdo_add1 M L v c w H R hM hL hn hs hts hw hn0 hc k1 i x hi hxi
      · exact rdo_add3 M L v c w H R hM hL hn hs hts hw k3 i x hi hxi
    · obtain ⟨i, hi, hxi⟩ := atM_some hx
      obtain ⟨j, hj, hyj⟩ := atM_some hy
      exact rdo_share M L v c w H R hM hL hn hs hts hw k2 i x hi hxi j hj (List.getElem?_eq_some_iff.1 hyj).1
    · obtain ⟨j, hj, hyj⟩ := atM_some hy
      exact rdo_cover M L v c w H R hM hL hn hs hts hw k7 j y hj hyj hI
    · obtain ⟨j, hj, hyj⟩ := atM_some hy
      rcases hk with k4 | k5 | ⟨k6, h6⟩ | k8
      · exact rdo_set4 M L v c w H R hM hL hn hs hts hw k4 j y hj hyj (fun e => by omega)
      · exact rdo_set5 M L v c w H R hM hL hn hs hts hw k5 j y hj hyj (fun e => by omega)
      · exact rdo_set6 M L v c w H R hM hL hn hs hts hw k6 j y hj hyj (fun _ => h6)
      · exact rdo_set8 M L v c w H R hM hL hn hs hts hw k8 j y hj hyj (fun e => by omega)
  · exact rdo_refused M L v c w H R hM hL hn hs hts hw
end Go.Proofs.YtcjbnjoomgagjaaGreatDoor.V
namespace Go.Proofs.YtcjbnjoomgagjaaGreatDoor.V
open Go.RowKit
def chgL (c : Chg) : List Value := [.int .i64 c.kind, .int .i64 c.at_, .int .i64 c.to, .string c.name, .string c.text, .int .i64 c.a, .int .i64 c.b, .int .i64 c.n]
def IsChgs (w : World) (a : Option Addr) (cs : List Chg) : Prop := cs = [] ∨ ∃ g o, a = some ⟨g, o, none⟩ ∧ ∀ (k : Nat) (c : Chg), cs[k]? = some c → w.rangeAt g (o + k * 8) (chgL c)
theorem IsChgs.keep {w w' : World} {a : Option Addr} {cs : List Chg} (h : IsChgs w a cs) (hb : Below w.heap.size w w') : IsChgs w' a cs := by
  rcases h with h | ⟨g, o, h1, h2⟩
  · exact .inl h
  · exact .inr ⟨g, o, h1, fun k c hk j v hj => cell_keep (h2 k c hk j v hj) hb⟩
theorem IsChgs.at_ {w : World} {a : Option Addr} {cs : List Chg} (h : IsChgs w a cs) {k : Nat} {c : Chg} (hk : cs[k]? = some c) : ∃ g o, a = some ⟨g, o, none⟩ ∧ w.rangeAt g (o + k * 8) (chgL c) := by
  rcases h with h | ⟨g, o, h1, h2⟩
  · rw [h] at hk; simp at hk
  · exact ⟨g, o, h1, h2 k c hk⟩
def smallC (c : Chg) : Prop := c.name.size ≤ 300 ∧ c.text.size ≤ 5000
def FewL (cs : List Chg) : Prop := ∀ (k : Nat) (c : Chg), k < 400 → cs[k]? = some c → smallC c
def FewRel (cs : List Chg) (w : World) (v : Value) (wr : World) : Prop := ∃ k : Nat, k ≤ cs.length ∧ k ≤ 400 ∧ v = .int .i64 (k : Int) ∧ wr = w ∧ Hid (∀ (j : Nat) (c : Chg), j < k → cs[j]? = some c → smallC c)
set_option maxRecDepth 100000 in
set_option maxHeartbeats 4000000 in
theorem few_any (cs : List Chg) (a : Option Addr) (cap : Nat) (n : Int) (w : World) (H : IsChgs w a cs) (hl : cs.length ≤ 9223372036854775807) (hz : ∀ c ∈ cs, c.name.size ≤ 9223372036854775807 ∧ c.text.size ≤ 9223372036854775807) :
    Calls Tryz.prog 19 #[.slice a cs.length cap, .int .i64 n] w fun e w' => ∃ b : Bool, e = .returned (.bool b) ∧ (b = true ↔ FewL cs ∧ (cs.length : Int) ≤ n) ∧ w' = w := by
  have HH := Lib.hid H
  have HZ := Lib.hid hz
  clear H hz
  go_enter Tryz.func19, Tryz.ntmps19
  go_wp2_with fail
  go_loopw [5] (FewRel cs w) (fun v _ => cs.length - (intOf v).toNat)
  case atStart => exact ⟨0, Nat.zero_le _, by omega, rfl, rfl, Lib.hid (fun j c hj => by omega)⟩
  case round =>
    obtain ⟨k, hk, hk4, rfl, rfl, hno⟩ := hrel
    by_cases hlt : k < cs.length
    · have d1 : decide ((k : Int) < (cs.length : Int)) = true := decide_eq_true (by omega)
      by_cases h4 : k < 400
      · have d2 : decide ((k : Int) < 400) = true := decide_eq_true (by omega)
        obtain ⟨c, hc⟩ : ∃ c, cs[k]? = some c := ⟨_, List.getElem?_eq_getElem hlt⟩
        obtain ⟨g, o, rfl, hr⟩ := HH.out.at_ hc
        have n3 : wr.cell? ⟨g, o + k * 8 + 3, none⟩ = some (.string c.name) := hr 3 _ rfl
        have n4 : wr.cell? ⟨g, o + k * 8 + 4, none⟩ = some (.string c.text) := hr 4 _ rfl
        have HCc := Lib.hid hc
        obtain ⟨z1, z2⟩ := HZ.out c (List.mem_of_getElem? hc)
        clear hr hc
        by_cases hn : 300 < c.name.size
        · have e1 : decide ((300 : Int) < (c.name.size : Int)) = true := decide_eq_true (by omega)
          have HB := Lib.hid (show ¬ (FewL cs ∧ (cs.length : Int) ≤ n) from fun e => by have := (e.1 k c h4 HCc.out).1; omega)
          go_wp2_with fail
          go_ret
          exact ⟨false, rfl, ⟨(fun e => absurd e (by decide)), fun e => absurd e HB.out⟩, rfl⟩
        · have e1 : decide ((300 : Int) < (c.name.size : Int)) = false := decide_eq_false (by omega)
          by_cases ht : 5000 < c.text.size
          · have e2 : decide ((5000 : Int) < (c.text.size : Int)) = true := decide_eq_true (by omega)
            have HB := Lib.hid (show ¬ (FewL cs ∧ (cs.length : Int) ≤ n) from fun e => by have := (e.1 k c h4 HCc.out).2; omega)
            go_wp2_with fail
            go_ret
            exact ⟨false, rfl, ⟨(fun e => absurd e (by decide)), fun e => absurd e HB.out⟩, rfl⟩
          · have e2 : decide ((5000 : Int) < (c.text.size : Int)) = false := decide_eq_false (by omega)
            have HN := Lib.hid (show ∀ (j : Nat) (c : Chg), j < k + 1 → cs[j]? = some c → smallC c from fun j c' hj hj' => by
              rcases Nat.lt_or_ge j k with q | q
              · exact hno.out j c' q hj'
              · obtain rfl : j = k := by omega
                rw [HCc.out] at hj'
                obtain rfl := Option.some.inj hj'
                exact ⟨by omega, by omega⟩)
            go_wp2_with fail
            go_roundw
            case rel => exact ⟨k + 1, by omega, by omega, by simp, rfl, Lib.hid HN.out⟩
            case measure => simp [intOf]; omega
      · have d2 : decide ((k : Int) < 400) = false := decide_eq_false (by omega)
        have HF := Lib.hid (show FewL cs from fun j c hj hc => hno.out j c (by omega) hc)
        go_wp2_with fail
        go_ret
        exact ⟨decide ((cs.length : Int) ≤ n), rfl, ⟨fun e => ⟨HF.out, of_decide_eq_true e⟩, fun e => decide_eq_true e.2⟩, rfl⟩
    · have d1 : decide ((k : Int) < (cs.length : Int)) = false := decide_eq_false (by omega)
      have HF := Lib.hid (show FewL cs from fun j c hj hc => hno.out j c (by have := (List.getElem?_eq_some_iff.1 hc).1; omega) hc)
      go_wp2_with fail
      go_ret
      exact ⟨decide ((cs.length : Int) ≤ n), rfl, ⟨fun e => ⟨HF.out, of_decide_eq_true e⟩, fun e => decide_eq_true e.2⟩, rfl⟩
end Go.Proofs.YtcjbnjoomgagjaaGreatDoor.V
namespace Go.Proofs.YtcjbnjoomgagjaaGreatDoor.V
open Go.RowKit
def Few2 (a b : Nat) (n : Nd) : Prop := 0 ≤ n.links ∧ n.links ≤ 2 + (a : Int) ∧ n.ents.length ≤ b
theorem all_modify {M : List Nd} {i : Nat} {f : Nd → Nd} {P P' : Nd → Prop} (h : ∀ n ∈ M, P n) (h1 : ∀ n, P n → P' n) (h2 : ∀ n, P n → P' (f n)) : ∀ n ∈ M.modify i f, P' n := by
  intro n hn
  obtain ⟨j, hj⟩ := List.mem_iff_getElem?.1 hn
  rw [List.getElem?_modify] at hj
  cases hm : M[j]? with
  | none => rw [hm] at hj; cases hj
  | some x =>
    rw [hm] at hj
    have hx := h x (List.mem_of_getElem? hm)
    have e : (if i = j then f x else x) = n := Option.some.inj hj
    rw [← e]
    split
    · exact h2 x hx
    · exact h1 x hx
theorem few_ent {M : List Nd} {a b i : Nat} {s : ByteArray} {id : Int} (h : ∀ n ∈ M, Few2 a b n) : ∀ n ∈ M.modify i (addEnt s id), Few2 a (b + 1) n :=
  all_modify h (fun n hn => ⟨hn.1, hn.2.1, by have := hn.2.2; omega⟩) (fun n hn => ⟨hn.1, hn.2.1, by show (n.ents ++ [(s, id)]).length ≤ _; have := hn.2.2; simp; omega⟩)
theorem few_link {M : List Nd} {a b i : Nat} (h : ∀ n ∈ M, Few2 a b n) : ∀ n ∈ M.modify i moreLinks, Few2 (a + 1) b n :=
  all_modify h (fun n hn => ⟨hn.1, by have := hn.2.1; omega, hn.2.2⟩) (fun n hn => ⟨by show 0 ≤ n.links + 1; have := hn.1; omega, by show n.links + 1 ≤ _; have := hn.2.1; omega, hn.2.2⟩)
theorem few_app {M : List Nd} {a b : Nat} {x : Nd} (h : ∀ n ∈ M, Few2 a b n) (hx : Few2 a b x) : ∀ n ∈ M ++ [x], Few2 a b n := fun n hn => by
  rcases List.mem_append.1 hn with q | q
  · exact h n q
  · obtain rfl : n = x := by simpa using q
    exact hx
theorem few_same {M : List Nd} {a b i : Nat} {f : Nd → Nd} (hf : ∀ n, (f n).links = n.links ∧ (f n).ents = n.ents) (h : ∀ n ∈ M, Few2 a b n) : ∀ n ∈ M.modify i f, Few2 a b n :=
  all_modify h (fun n hn => hn) (fun n hn => by unfold Few2; rw [(hf n).1, (hf n).2]; exact hn)
theorem few_more {a b : Nat} {n : Nd} (h : Few2 a b n) : Few2 (a + 1) (b + 1) n := ⟨h.1, by have := h.2.1; omega, by have := h.2.2; omega⟩
theorem small_few {M : List Nd} {k : Nat} (h : Small M k) : ∀ n ∈ M, Few2 k k n := fun n hn => h.2 n hn
theorem setNd_few (c : Chg) (n : Nd) : (setNd c n).links = n.links ∧ (setNd c n).ents = n.ents := by
  unfold setNd
  repeat' split
  all_goals exact ⟨rfl, rfl⟩
theorem small_built {M : List Nd} {k i : Nat} {s : ByteArray} {n : Nd} {d : Int} (h : Small M k) (hl : M.length < 300) (hn : n.ents = []) (h0 : 0 ≤ n.links) (h2 : n.links ≤ 2) : Small (builtM M i s n d) (k + 1) := by
  unfold builtM
  refine ⟨by rw [List.length_modify, List.length_modify, List.length_append]; simp; omega, ?_⟩
  exact few_link (few_ent (few_app (small_few h) ⟨h0, by show n.links ≤ _; omega, by show n.ents.length ≤ _; rw [hn]; simp⟩))
theorem small_do {M : List Nd} {c : Chg} {k : Nat} (h : Small M k) : Small (doM M c) (k + 1) := by
  have hmore : Small M (k + 1) := ⟨h.1, fun n hn => few_more (small_few h n hn)⟩
  unfold doM
  split
  · rename_i hw
    rcases wrong_cases hw with ⟨x, hx, hk, hl⟩ | ⟨k2, x, y, hx, hy, _⟩ | ⟨k7, hl, y, hy⟩ | ⟨hk, y, hy⟩
    · unfold carryM
      rcases hk with k0 | ⟨k1, _⟩ | k3
      · rw [if_pos k0]; exact small_built h hl rfl (by show (0 : Int) ≤ 2; decide) (by show (2 : Int) ≤ 2; decide)
      · rw [if_neg (by omega), if_pos k1]; exact small_built h hl rfl (by show (0 : Int) ≤ 0; decide) (by show (0 : Int) ≤ 2; decide)
      · rw [if_neg (by omega), if_neg (by omega), if_neg (by omega), if_pos k3]; exact small_built h hl rfl (by show (0 : Int) ≤ 0; decide) (by show (0 : Int) ≤ 2; decide)
    · unfold carryM
      rw [if_neg (by omega), if_neg (by omega), if_pos k2]
      refine ⟨by rw [List.length_modify, List.length_modify]; exact h.1, ?_⟩
      exact few_link (few_ent (small_few h))
    · unfold carryM
      rw [if_neg (by omega), if_neg (by omega), if_neg (by omega), if_neg (by omega), if_pos k7]
      unfold coveredM
      refine ⟨by rw [List.length_modify, List.length_append]; simp; omega, ?_⟩
      exact few_same (fun n => ⟨rfl, rfl⟩) (few_app hmore.2 ⟨by show (0 : Int) ≤ 2; decide, by show (2 : Int) ≤ _; omega, by show ([] : List (ByteArray × Int)).length ≤ _; simp⟩)
    · unfold carryM
      rw [if_neg (by omega), if_neg (by omega), if_neg (by omega), if_neg (by omega), if_neg (by omega)]
      refine ⟨by rw [List.length_modify]; exact h.1, ?_⟩
      exact few_same (setNd_few c) hmore.2
  · exact hmore
theorem len_do {M : List Nd} {c : Chg} (h : 0 < M.length) : 0 < (doM M c).length := by
  unfold doM
  split
  · unfold carryM builtM coveredM
    repeat' split
    all_goals simp
    all_goals omega
  · exact h
end Go.Proofs.YtcjbnjoomgagjaaGreatDoor.V
namespace Go.Proofs.YtcjbnjoomgagjaaGreatDoor.V
open Go.RowKit
theorem foot_type {h : Fsh} {w : World} (H : Fs h w) {k : Nat} (hk : h.foot k) : ∃ cur T, w.heap[k]? = some (.cells cur T (0, 0)) ∧ (T = 76 ∨ T = 86 ∨ T = 81) := by
  rcases hk with rfl | hk | ⟨x, hx, hk⟩
  · exact ⟨_, _, H.head, .inl rfl⟩
  · obtain ⟨cur, hc⟩ := owns_type H.own hk
    exact ⟨cur, _, hc, .inr (.inl rfl)⟩
  · obtain ⟨cur, hc⟩ := owns_type (H.ents x hx) hk
    exact ⟨cur, _, hc, .inr (.inr rfl)⟩
def Keeps (w w' : World) : Prop := ∀ (k : Nat) (cs : Array Value) (T : TypeId), w.heap[k]? = some (.cells cs T (0, 0)) → T ≠ 76 → T ≠ 86 → T ≠ 81 → w'.heap[k]? = some (.cells cs T (0, 0))
theorem Grew.keeps {h h' : Fsh} {w w' : World} (G : Grew h h' w w') (H : Fs h w) : Keeps w w' := fun k cs T hk h1 h2 h3 => (G.kept k (heap_lt hk) fun q => by
  obtain ⟨cur, T', hc, hT⟩ := foot_type H q
  rw [hk] at hc
  simp only [Option.some.injEq, Obj.cells.injEq, and_true] at hc
  obtain ⟨_, rfl⟩ := hc
  rcases hT with e | e | e
  · exact h1 e
  · exact h2 e
  · exact h3 e).trans hk
theorem Keeps.owns {w w' : World} (K : Keeps w w') {e : TypeId} {size n : Nat} {v : Value} {xs : List Value} (ho : w.ownsRow 0 e size v n xs) (h1 : e ≠ 76) (h2 : e ≠ 86) (h3 : e ≠ 81) : w'.ownsRow 0 e size v n xs :=
  owns_at ho fun k hk => by
    obtain ⟨cur, hc⟩ := owns_type ho hk
    rw [K k cur e hc h1 h2 h3, hc]
theorem Keeps.rs {w w' : World} (K : Keeps w w') {M : List Nd} {L : List It} {v : Rv} (H : Rs M L v w) : Rs M L v w' :=
  ⟨K.owns H.hn (by decide) (by decide) (by decide), K.owns H.hl (by decide) (by decide) (by decide), K.owns H.hc (by decide) (by decide) (by decide), K.owns H.hd (by decide) (by decide) (by decide), K.owns H.ha (by decide) (by decide) (by decide), K.owns H.hf (by decide) (by decide) (by decide)⟩
theorem has_do_keeps {w0 w : World} {p : Nat} {M : List Nd} {c : Chg} {k : Nat} (h : Has w0 p M w) (hS : Small M k) (hk : k ≤ 900000) (hn : 0 < M.length) (hc : -9223372036854775808 ≤ c.n ∧ c.n ≤ 9223372036854775807) :
    Calls Tryz.prog 21 #[.pointer (some ⟨p, 0, none⟩), chgV c] w fun e w' => e = .returned (.tuple #[.int .i64 (doR M c), .int .i64 (wrongM M c)]) ∧ Has w0 p (doM M c) w' ∧ Keeps w w' ∧ w.heap.size ≤ w'.heap.size := by
  obtain ⟨h, rfl, rfl, H, hb, hf⟩ := h
  have hml : h.M.length = h.X.length := List.length_map ..
  refine (do_any h c k w H hS hk (by omega) hc).mono ?_
  rintro e w' ⟨he, h', hp', hm', H', G'⟩
  exact ⟨he, ⟨h', hp', hm', H', hb.trans (G'.below hb.size hf), fun j hj => by rcases G'.new j hj with q | q; exact hf j q; exact Nat.le_trans hb.size q⟩, G'.keeps H, G'.size⟩
def runM : List Chg → List Nd → List Nd
  | [], M => M
  | c :: r, M => runM r (doM M c)
theorem runM_append : ∀ (a b : List Chg) (M : List Nd), runM (a ++ b) M = runM b (runM a M)
  | [], b, M => rfl
  | c :: r, b, M => by rw [List.cons_append, runM, runM, runM_append r b]
theorem runM_take {cs : List Chg} {k : Nat} {c : Chg} (hc : cs[k]? = some c) (M : List Nd) : runM (cs.take (k + 1)) M = doM (runM (cs.take k) M) c := by
  rw [List.take_add_one, hc, runM_append]
  rfl
theorem runM_small : ∀ (cs : List Chg) (M : List Nd) (k : Nat), Small M k → Small (runM cs M) (k + cs.length)
  | [], M, k, h => h
  | c :: r, M, k, h => by
    have := runM_small r (doM M c) (k + 1) (small_do h)
    rw [show k + 1 + r.length = k + (c :: r).length by rw [List.length_cons]; omega] at this
    exact this
theorem runM_dev : ∀ (cs : List Chg) (M : List Nd), DevInv M → DevInv (runM cs M)
  | [], M, h => h
  | c :: r, M, h => runM_dev r (doM M c) (devInv_do h)
structure Twin (w0 : World) (p : Nat) (M : List Nd) (L : List It) (v : Rv) (w : World) : Prop where
  fs : Has w0 p M w
  rs : Rs M L v w
  rel : Rel M L
theorem Twin.keep {w0 w w' : World} {p : Nat} {M : List Nd} {L : List It} {v : Rv} (h : Twin w0 p M L v w) (hb : Below w.heap.size w w') : Twin w0 p M L v w' := ⟨h.fs.keep hb, h.rs.keep hb, h.rel⟩
theorem rel_new : Rel newM [] := by
  refine ⟨fun i x hx => ?_, fun x hx => ?_, fun e he => (by cases he), fun e he => (by cases he)⟩
  · match i, hx with
    | 0, hx => simp only [newM, List.getElem?_cons_zero, Option.some.injEq] at hx; subst hx; rfl
    | i + 1, hx => simp [newM] at hx
  · obtain rfl : x = addedNd (dirNd 493 0) 1 [] := by simpa [newM] using hx
    decide
theorem rs_new {w : World} {v : Rv} (h : ROwn w v 1 (addedNd (dirAt 1 493 0) 1 []).bare 0 [] 1 [.int .i64 (-1)] 1 [.bool false] 1 [.int .i64 0] 1 [.int .i64 0]) : Rs newM [] v w :=
  ⟨h.1, h.2.1, h.2.2.1, h.2.2.2.1, h.2.2.2.2.1, h.2.2.2.2.2⟩
end Go.Proofs.YtcjbnjoomgagjaaGreatDoor.V
namespace Go.Proofs.YtcjbnjoomgagjaaGreatDoor.V
open Go.RowKit
def kdir (K : List Int) (id : Int) : Bool := K[id.toNat]? == some 2
def kindsM (M : List Nd) : List Int := M.map fun n => n.kind
def dirsIn (K : List Int) : List (ByteArray × Int) → Int
  | [] => 0
  | e :: r => (if kdir K e.2 = true then 1 else 0) + dirsIn K r
def cntId (id : Int) : List (ByteArray × Int) → Int
  | [] => 0
  | e :: r => (if e.2 = id then 1 else 0) + cntId id r
def refs (id : Int) : List Nd → Int
  | [] => 0
  | n :: r => cntId id n.ents + refs id r
structure LInv (M : List Nd) : Prop where
  id : ∀ n ∈ M, ∀ e ∈ n.ents, 0 ≤ e.2 ∧ e.2 < (M.length : Int)
  links : ∀ (i : Nat) (x : Nd), M[i]? = some x → x.links = if x.kind = 2 then 2 + dirsIn (kindsM M) x.ents else refs (i : Int) M
theorem dirsIn_snoc (K : List Int) (s : ByteArray) (j : Int) : ∀ l, dirsIn K (l ++ [(s, j)]) = dirsIn K l + if kdir K j = true then 1 else 0
  | [] => by simp [dirsIn]
  | e :: r => by rw [List.cons_append, dirsIn, dirsIn, dirsIn_snoc K s j r]; omega
theorem cntId_snoc (id : Int) (s : ByteArray) (j : Int) : ∀ l, cntId id (l ++ [(s, j)]) = cntId id l + if j = id then 1 else 0
  | [] => by simp [cntId]
  | e :: r => by rw [List.cons_append, cntId, cntId, cntId_snoc id s j r]; omega
theorem kdir_app {K : List Int} {k j : Int} (h0 : 0 ≤ j) (h1 : j < (K.length : Int)) : kdir (K ++ [k]) j = kdir K j := by
  unfold kdir
  rw [List.getElem?_append_left (by omega)]
theorem dirsIn_app {K : List Int} {k : Int} : ∀ l : List (ByteArray × Int), (∀ e ∈ l, 0 ≤ e.2 ∧ e.2 < (K.length : Int)) → dirsIn (K ++ [k]) l = dirsIn K l
  | [], _ => rfl
  | e :: r, h => by
    rw [dirsIn, dirsIn, dirsIn_app r (fun x hx => h x (List.mem_cons_of_mem _ hx)), kdir_app (h e List.mem_cons_self).1 (h e List.mem_cons_self).2]
theorem refs_append (id : Int) : ∀ a b, refs id (a ++ b) = refs id a + refs id b
  | [], b => by simp [refs]
  | x :: r, b => by rw [List.cons_append, refs, refs, refs_append id r b]; omega
theorem refs_ent (id : Int) (s : ByteArray) (j : Int) : ∀ (M : List Nd) (i : Nat), i < M.length → refs id (M.modify i (addEnt s j)) = refs id M + if j = id then 1 else 0
  | [], i, h => by simp at h
  | n :: r, 0, h => by
    rw [List.modify_zero_cons, refs, refs]
    show cntId id (n.ents ++ [(s, j)]) + refs id r = _
    rw [cntId_snoc]
    omega
  | n :: r, i + 1, h => by
    rw [List.modify_succ_cons, refs, refs, refs_ent id s j r i (by simpa using h)]
    omega
theorem refs_same (id : Int) {f : Nd → Nd} (hf : ∀ n, (f n).ents = n.ents) : ∀ (M : List Nd) (i : Nat), refs id (M.modify i f) = refs id M
  | [], i => by simp
  | n :: r, 0 => by rw [List.modify_zero_cons, refs, refs, hf]
  | n :: r, i + 1 => by rw [List.modify_succ_cons, refs, refs, refs_same id hf r i]
theorem cntId_none (id : Int) : ∀ l : List (ByteArray × Int), (∀ e ∈ l, e.2 ≠ id) → cntId id l = 0
  | [], _ => rfl
  | e :: r, h => by rw [cntId, if_neg (h e List.mem_cons_self), cntId_none id r (fun x hx => h x (List.mem_cons_of_mem _ hx))]; rfl
theorem refs_none (id : Int) : ∀ M : List Nd, (∀ n ∈ M, ∀ e ∈ n.ents, e.2 ≠ id) → refs id M = 0
  | [], _ => rfl
  | n :: r, h => by rw [refs, cntId_none id n.ents (h n List.mem_cons_self), refs_none id r (fun x hx => h x (List.mem_cons_of_mem _ hx))]; rfl
theorem kinds_modify {f : Nd → Nd} (hf : ∀ n, (f n).kind = n.kind) : ∀ (M : List Nd) (i : Nat), kindsM (M.modify i f) = kindsM M
  | [], i => by simp
  | n :: r, 0 => by rw [List.modify_zero_cons]; show (f n).kind :: kindsM r = n.kind :: kindsM r; rw [hf]
  | n :: r, i + 1 => by rw [List.modify_succ_cons]; show n.kind :: kindsM (r.modify i f) = n.kind :: kindsM r; rw [kinds_modify hf r i]
theorem kinds_app (M : List Nd) (x : Nd) : kindsM (M ++ [x]) = kindsM M ++ [x.kind] := by unfold kindsM; rw [List.map_append]; rfl
theorem kinds_len (M : List Nd) : (kindsM M).length = M.length := by unfold kindsM; rw [List.length_map]
theorem kdir_at {M : List Nd} {i : Nat} {x : Nd} (h : M[i]? = some x) : kdir (kindsM M) (i : Int) = decide (x.kind = 2) := by
  unfold kdir kindsM
  rw [Int.toNat_natCast, List.getElem?_map, h]
  show (some x.kind == some 2) = _
  by_cases e : x.kind = 2
  · rw [e]; rfl
  · rw [decide_eq_false e]; simpa using e
theorem LInv.app {M : List Nd} {x : Nd} (H : LInv M) (he : x.ents = []) (hl : x.links = if x.kind = 2 then 2 else 0) : LInv (M ++ [x]) := by
  refine ⟨fun n hn e hee => ?_, fun i y hy => ?_⟩
  · rcases List.mem_append.1 hn with q | q
    · have := H.id n q e hee
      rw [List.length_append]
      exact ⟨this.1, by have := this.2; simp; omega⟩
    · obtain rfl : n = x := by simpa using q
      rw [he] at hee
      cases hee
  · rw [kinds_app, refs_append]
    have hx : refs (i : Int) [x] = 0 := by rw [refs, refs, he]; rfl
    rw [hx]
    by_cases hi : i < M.length
    · rw [List.getElem?_append_left hi] at hy
      have hm := List.mem_of_getElem? hy
      rw [dirsIn_app y.ents (fun e h => by rw [kinds_len]; exact H.id y hm e h), H.links i y hy, Int.add_zero]
    · rw [List.getElem?_append_right (by omega)] at hy
      have h0 : i - M.length = 0 := by
        have := (List.getElem?_eq_some_iff.1 hy).1
        simp at this
        omega
      rw [h0] at hy
      obtain rfl : x = y := by simpa using hy
      rw [he, hl, refs_none (i : Int) M (fun n hn e hee => by have := (H.id n hn e hee).2; omega)]
      rfl
theorem mem_modify {M : List Nd} {i : Nat} {f : Nd → Nd} {n : Nd} (h : n ∈ M.modify i f) : n ∈ M ∨ ∃ x, M[i]? = some x ∧ n = f x := by
  obtain ⟨j, hj⟩ := List.mem_iff_getElem?.1 h
  rw [List.getElem?_modify] at hj
  cases hm : M[j]? with
  | none => rw [hm] at hj; cases hj
  | some x =>
    rw [hm] at hj
    have e : (if i = j then f x else x) = n := Option.some.inj hj
    split at e
    · rename_i q
      subst q
      exact .inr ⟨x, hm, e.symm⟩
    · exact .inl (e ▸ List.mem_of_getElem? hm)
theorem LInv.same {M : List Nd} {i : Nat} {f : Nd → Nd} (H : LInv M) (hf : ∀ n, (f n).links = n.links ∧ (f n).ents = n.ents ∧ (f n).kind = n.kind) : LInv (M.modify i f) := by
  refine ⟨fun n hn e he => ?_, fun k y hy => ?_⟩
  · rw [List.length_modify]
    rcases mem_modify hn with q | ⟨x, hx, rfl⟩
    · exact H.id n q e he
    · rw [(hf x).2.1] at he
      exact H.id x (List.mem_of_getElem? hx) e he
  · rw [kinds_modify (fun n => (hf n).2.2), refs_same _ (fun n => (hf n).2.1)]
    rw [List.getElem?_modify] at hy
    cases hm : M[k]? with
    | none => rw [hm] at hy; cases hy
    | some x =>
      rw [hm] at hy
      have e : (if i = k then f x else x) = y := Option.some.inj hy
      have := H.links k x hm
      rw [← e]
      split
      · rw [(hf x).1, (hf x).2.1, (hf x).2.2]; exact this
      · exact this
theorem LInv.enter {M : List Nd} {i j : Nat} {s : ByteArray} {d : Nd} (H : LInv M) (hd : M[i]? = some d) (hk : d.kind = 2) (hj : j < M.length) {t : Nat} (ht : t = if kdir (kindsM M) (j : Int) = true then i else j) : LInv ((M.modify i (addEnt s (j : Int))).modify t moreLinks) := by
  have hi := (List.getElem?_eq_some_iff.1 hd).1
  refine ⟨fun n hn e he => ?_, fun k y hy => ?_⟩
  · rw [List.length_modify, List.length_modify]
    have base : ∀ n ∈ M.modify i (addEnt s (j : Int)), ∀ e ∈ n.ents, 0 ≤ e.2 ∧ e.2 < (M.length : Int) := fun n hn e he => by
      rcases mem_modify hn with q | ⟨x, hx, rfl⟩
      · exact H.id n q e he
      · have he : e ∈ x.ents ++ [(s, (j : Int))] := he
        rcases List.mem_append.1 he with q | q
        · exact H.id x (List.mem_of_getElem? hx) e q
        · obtain rfl : e = (s, (j : Int)) := by simpa using q
          exact ⟨by omega, by omega⟩
    rcases mem_modify hn with q | ⟨x, hx, rfl⟩
    · exact base n q e he
    · exact base x (List.mem_of_getElem? hx) e he
  · rw [kinds_modify (f := moreLinks) (fun n => rfl), kinds_modify (f := addEnt s (j : Int)) (fun n => rfl), refs_same (f := moreLinks) _ (fun n => rfl), refs_ent _ _ _ _ _ hi]
    rw [List.getElem?_modify, List.getElem?_modify] at hy
    cases hm : M[k]? with
    | none => rw [hm] at hy; cases hy
    | some x =>
      rw [hm] at hy
      have e : (if t = k then moreLinks (if i = k then addEnt s (j : Int) x else x) else (if i = k then addEnt s (j : Int) x else x)) = y := Option.some.inj hy
      have h0 := H.links k x hm
      have e1 : y.links = x.links + if t = k then 1 else 0 := by
        rw [← e]
        split
        · split <;> rfl
        · split <;> exact (Int.add_zero _).symm
      have e2 : y.kind = x.kind := by rw [← e]; split <;> split <;> rfl
      have e3 : dirsIn (kindsM M) y.ents = dirsIn (kindsM M) x.ents + if i = k ∧ kdir (kindsM M) (j : Int) = true then 1 else 0 := by
        have : y.ents = if i = k then x.ents ++ [(s, (j : Int))] else x.ents := by rw [← e]; split <;> split <;> rfl
        rw [this]
        by_cases q : i = k
        · rw [if_pos q, dirsIn_snoc]
          by_cases q2 : kdir (kindsM M) (j : Int) = true
          · rw [if_pos q2, if_pos ⟨q, q2⟩]
          · rw [if_neg q2, if_neg (fun z => q2 z.2)]
        · rw [if_neg q, if_neg (fun z => q z.1), Int.add_zero]
      rw [e1, e2, e3, h0]
      have hjx : ∀ z, M[j]? = some z → kdir (kindsM M) (j : Int) = decide (z.kind = 2) := fun z hz => kdir_at hz
      by_cases hx2 : x.kind = 2
      · rw [if_pos hx2, if_pos hx2]
        have : (if t = k then (1 : Int) else 0) = if i = k ∧ kdir (kindsM M) (j : Int) = true then 1 else 0 := by
          by_cases q2 : kdir (kindsM M) (j : Int) = true
          · rw [if_pos q2] at ht
            subst ht
            by_cases q : t = k
            · rw [if_pos q, if_pos ⟨q, q2⟩]
            · rw [if_neg q, if_neg (fun z => q z.1)]
          · rw [if_neg q2] at ht
            subst ht
            have h1 : ¬ t = k := fun q => by
              subst q
              rw [hjx x hm, hx2] at q2
              exact q2 rfl
            rw [if_neg h1, if_neg (fun z => q2 z.2)]
        rw [this]
        omega
      · rw [if_neg hx2, if_neg hx2]
        have : (if t = k then (1 : Int) else 0) = if (j : Int) = (k : Int) then 1 else 0 := by
          by_cases q2 : kdir (kindsM M) (j : Int) = true
          · rw [if_pos q2] at ht
            subst ht
            have h1 : ¬ t = k := fun q => by
              subst q
              rw [hd] at hm
              exact hx2 (Option.some.inj hm ▸ hk)
            have h2 : ¬ (j : Int) = (k : Int) := fun q => by
              obtain rfl : j = k := by omega
              rw [hjx x hm] at q2
              exact hx2 (of_decide_eq_true q2)
            rw [if_neg h1, if_neg h2]
          · rw [if_neg q2] at ht
            subst ht
            by_cases q : t = k
            · rw [if_pos q, if_pos (by omega)]
            · rw [if_neg q, if_neg (by omega)]
        rw [this]
theorem wrong_at {M : List Nd} {c : Chg} (h : wrongM M c = 0) (k0 : 0 ≤ c.kind) (k3 : c.kind < 4) : ∃ x, atM M c.at_ = some x ∧ x.kind = 2 := by
  unfold wrongM refuseE at h
  split at h
  · cases h
  · rename_i hno
    unfold baseE at h
    rw [if_pos ⟨k0, by omega⟩] at h
    unfold entryE at h
    cases hx : atM M c.at_ with
    | none => rw [hx] at h; cases h
    | some x =>
      rw [hx] at h
      dsimp only at h
      split at h
      · rename_i q; exact ⟨x, rfl, q⟩
      · cases h
theorem setNd_kind (c : Chg) (n : Nd) : (setNd c n).kind = n.kind := by
  unfold setNd
  repeat' split
  all_goals rfl
theorem LInv.built {M : List Nd} {i : Nat} {s : ByteArray} {n x : Nd} {d : Int} (H : LInv M) (hx : M[i]? = some x) (hk : x.kind = 2) (he : n.ents = []) (hl : n.links = if n.kind = 2 then 2 else 0) : LInv (builtM M i s n d) := by
  unfold builtM
  have h1 : LInv (M ++ [addedNd n d M]) := H.app he hl
  have hi := (List.getElem?_eq_some_iff.1 hx).1
  refine h1.enter (i := i) (j := M.length) (d := x) (by rw [List.getElem?_append_left hi]; exact hx) hk (by simp) ?_
  have : kdir (kindsM (M ++ [addedNd n d M])) (M.length : Int) = decide ((addedNd n d M).kind = 2) := kdir_at (app_last _ _)
  rw [show (addedNd n d M).kind = n.kind from rfl] at this
  rw [this]
  by_cases q : n.kind = 2
  · rw [if_pos q, if_pos (decide_eq_true q)]
  · rw [if_neg q, if_neg (by simpa using q)]
theorem LInv.do_ {M : List Nd} {c : Chg} (H : LInv M) : LInv (doM M c) := by
  unfold doM
  split
  · rename_i hw
    unfold carryM
    have hat : ∀ (_ : 0 ≤ c.kind) (_ : c.kind < 4), ∃ x, M[c.at_.toNat]? = some x ∧ x.kind = 2 := fun k0 k3 => by
      obtain ⟨x, hx, hk⟩ := wrong_at hw k0 k3
      obtain ⟨i, hi, hxi⟩ := atM_some hx
      exact ⟨x, by rw [hi, Int.toNat_natCast]; exact hxi, hk⟩
    split
    · obtain ⟨x, hx, hk⟩ := hat (by omega) (by omega)
      exact H.built hx hk rfl rfl
    · split
      · obtain ⟨x, hx, hk⟩ := hat (by omega) (by omega)
        exact H.built hx hk rfl rfl
      · split
        · rename_i k2
          obtain ⟨x, hx, hk⟩ := hat (by omega) (by omega)
          rcases wrong_cases hw with ⟨_, _, q, _⟩ | ⟨_, x', y, _, hy, hyk⟩ | ⟨q, _⟩ | ⟨q, _⟩
          · omega
          · obtain ⟨j, hj, hyj⟩ := atM_some hy
            have hy' : (atM M c.to).elim 0 (·.kind) = y.kind := by rw [hy]; rfl
            rw [if_neg (by rw [hy']; exact hyk), hj, Int.toNat_natCast]
            refine H.enter hx hk (List.getElem?_eq_some_iff.1 hyj).1 ?_
            rw [kdir_at hyj, decide_eq_false hyk]
            rfl
          · omega
          · omega
        · split
          · obtain ⟨x, hx, hk⟩ := hat (by omega) (by omega)
            exact H.built hx hk rfl rfl
          · split
            · exact (H.app (x := addedNd (dirNd (c.a % 4096) ((atM M c.to).elim 0 (·.up))) (((devL M 0).length : Int) + 1) M) rfl rfl).same (fun n => ⟨rfl, rfl, rfl⟩)
            · exact H.same (fun n => ⟨(setNd_few c n).1, (setNd_few c n).2, setNd_kind c n⟩)
  · exact H
def hitB (K : List Int) (d : Bool) (i : Int) (e : It) : Bool := if d = true then e.at_ == i && kdir K e.id else e.id == i
def lcnt (K : List Int) (d : Bool) (i : Int) : List It → Int
  | [] => 0
  | e :: r => (if hitB K d i e = true then 1 else 0) + lcnt K d i r
def entsL (L : List It) (i : Int) : List (ByteArray × Int) := (L.filter fun e => e.at_ == i).map fun e => (e.name, e.id)
end Go.Proofs.YtcjbnjoomgagjaaGreatDoor.V
