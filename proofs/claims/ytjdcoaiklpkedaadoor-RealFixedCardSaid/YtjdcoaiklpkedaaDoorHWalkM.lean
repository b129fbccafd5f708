/-
  Where a path leads: the walk over the model's nodes, names ahead of names. Conditions: none.
-/
import Derived.Test.YtjdcoaiklpkedaaDoorVAsk
import Derived.Test.YtjdcoaiklpkedaaDoorHNames
import Derived.Test.YtjdcoaiklpkedaaDoorPMay
set_option linter.unusedVariables false
namespace Go.Proofs.YtjdcoaiklpkedaaDoor
open Go.RowKit

/-- A node as perm's texts have it. -/
def nvOf (n : Nd) : Nv := ⟨n.dev, n.ino, n.kind, n.mode, n.uid, n.gid, n.size, n.blocks, n.links, n.t0, n.t1, n.t2, n.target⟩
def zeroNv : Nv := ⟨0, 0, 0, 0, 0, 0, 0, 0, 0, 0, 0, 0, ⟨#[]⟩⟩
def nvAt (M : List Nd) (i : Int) : Nv := match atM M i with
  | none => zeroNv
  | some n => nvOf n
theorem nodeV_nv (M : List Nd) (i : Int) : nodeV' M i = nodeV (nvAt M i) := by
  unfold nodeV' nvAt
  cases atM M i <;> rfl
def kindM (M : List Nd) (i : Int) : Int := (nvAt M i).kind
/-- A place: the node, and by which name's entry it was come to. -/
structure Pl where
  id : Int
  dir : Int
  name : ByteArray
def plOf (i : Int) : Pl := ⟨i, i, ⟨#[]⟩⟩
def findE (s : ByteArray) : List (ByteArray × Int) → Option Int
  | [] => none
  | x :: r => if sameT x.1 s = true then some x.2 else findE s r
/-- From a directory by a name. -/
def entW (M : List Nd) (u g : Int) (at_ : Int) (s : ByteArray) : Except Int Pl :=
  if kindM M at_ = 2 then
    (if mayB (bitsP (nvAt M at_) u g) 1 = true then
      (if s.size ≤ 255 then
        (if s.toList = [46] then .ok (plOf at_)
         else if s.toList = [46, 46] then .ok (plOf (overI M (upI M at_)))
         else if listE M at_ = 0 then
           (match findE s (listL M at_) with
            | none => .error 2
            | some i => .ok ⟨overI M i, at_, s⟩)
         else .error (listE M at_))
       else .error 7)
     else .error 5)
  else .error 3
/-- Is a node a link that is followed? -/
def thruW (M : List Nd) (follow slash : Bool) (r : List ByteArray) (i : Int) : Bool := kindM M i == 3 && (follow || (slash || decide (0 < r.length)))
/-- What a walk comes to: the error, or 0; the place; how many links were followed. -/
structure Res where
  err : Int
  pl : Pl
  hops : Int
def bad (e : Int) : Res := ⟨e, ⟨0, 0, ⟨#[]⟩⟩, 0⟩
def endW (M : List Nd) (slash : Bool) (p : Pl) (hops : Int) : Res :=
  if slash = true ∧ kindM M p.id ≠ 2 then bad 3 else ⟨0, p, hops⟩
/-- Along names, until a link is met. -/
def goL (M : List Nd) (u g : Int) (follow : Bool) (hops : Int) (k : Int → List ByteArray → Pl → Bool → Res) : List ByteArray → Pl → Bool → Res
  | [], p, slash => endW M slash p hops
  | s :: r, p, slash => match entW M u g p.id s with
    | .error e => bad e
    | .ok q => if thruW M follow slash r q.id = true then k q.id r p slash else goL M u g follow hops k r q slash
/-- With h links still to be followed. -/
def goW (M : List Nd) (u g : Int) (follow : Bool) : Nat → List ByteArray → Pl → Bool → Res
  | 0, l, p, slash => goL M u g follow 40 (fun _ _ _ _ => bad 6) l p slash
  | h + 1, l, p, slash => goL M u g follow (40 - (h + 1 : Nat)) (fun i r q sl => if linkE M i = 0 then goW M u g follow h (namesL (linkT M i) ++ r) (if beginsB (linkT M i) = true then plOf 0 else q) (sl || (endsB (linkT M i) && r.isEmpty)) else bad (linkE M i)) l p slash
def walkW (M : List Nd) (u g : Int) (s : ByteArray) (follow : Bool) : Res :=
  if s.size = 0 then bad 2 else if 4096 < s.size then bad 7 else goW M u g follow 40 (namesL s) (plOf 0) (endsB s)
def kOf (M : List Nd) (u g : Int) (follow : Bool) : Nat → Int → List ByteArray → Pl → Bool → Res
  | 0 => fun _ _ _ _ => bad 6
  | h + 1 => fun i r q sl => if linkE M i = 0 then goW M u g follow h (namesL (linkT M i) ++ r) (if beginsB (linkT M i) = true then plOf 0 else q) (sl || (endsB (linkT M i) && r.isEmpty)) else bad (linkE M i)
theorem goW_nil (M : List Nd) (u g : Int) (follow : Bool) (h : Nat) (p : Pl) (sl : Bool) : goW M u g follow h [] p sl = endW M sl p (40 - (h : Int)) := by
  cases h <;> rfl
theorem goW_cons (M : List Nd) (u g : Int) (follow : Bool) (h : Nat) (s : ByteArray) (r : List ByteArray) (p : Pl) (sl : Bool) : goW M u g follow h (s :: r) p sl =
    match entW M u g p.id s with
    | .error e => bad e
    | .ok q => if thruW M follow sl r q.id = true then kOf M u g follow h q.id r p sl else goW M u g follow h r q sl := by
  cases h <;> rfl
theorem entW_err {M : List Nd} {u g i : Int} {s : ByteArray} {e : Int} (h : entW M u g i s = .error e) : e ≠ 0 := by
  unfold entW at h
  by_cases h1 : kindM M i = 2
  · rw [if_pos h1] at h
    by_cases h2 : mayB (bitsP (nvAt M i) u g) 1 = true
    · rw [if_pos h2] at h
      by_cases h3 : s.size ≤ 255
      · rw [if_pos h3] at h
        by_cases h4 : s.toList = [46]
        · rw [if_pos h4] at h; cases h
        · rw [if_neg h4] at h
          by_cases h5 : s.toList = [46, 46]
          · rw [if_pos h5] at h; cases h
          · rw [if_neg h5] at h
            by_cases h6 : listE M i = 0
            · rw [if_pos h6] at h
              cases hf : findE s (listL M i) with
              | none => rw [hf] at h; have := Except.error.inj h; omega
              | some j => rw [hf] at h; cases h
            · rw [if_neg h6] at h
              have := Except.error.inj h
              omega
      · rw [if_neg h3] at h; have := Except.error.inj h; omega
    · rw [if_neg h2] at h; have := Except.error.inj h; omega
  · rw [if_neg h1] at h; have := Except.error.inj h; omega
theorem known_nv (n : Nv) : nodeV n = .agg #[.int .i64 n.dev, .int .i64 n.ino, .int .i64 n.kind, .int .i64 n.mode, .int .i64 n.uid, .int .i64 n.gid, .int .i64 n.size, .int .i64 n.blocks, .int .i64 n.links, .int .i64 n.ta, .int .i64 n.tb, .int .i64 n.tc, .string n.target] := rfl
end Go.Proofs.YtjdcoaiklpkedaaDoor
