/-
  What the reference's Tokens returns. Conditions: a text of at most 60000 bytes.
  What the reference's Version returns. Conditions: texts of at most 60000 bytes.
  What the reference's Compare returns. Conditions: names of at most 60000 bytes.
-/
import Derived.Test.YtpikndeefiediaaGreatDoorKOPlM
import Derived.Deep.AppendLies
import Derived.Deep.RegionLaw
set_option linter.unusedVariables false
namespace Go.Proofs.YtpikndeefiediaaGreatDoor.O
open Go.Proofs.YtpikndeefiediaaGreatDoor.B
open Go.RowKit

end Go.Proofs.YtpikndeefiediaaGreatDoor.O

namespace Go.Proofs.YtpikndeefiediaaGreatDoor.O
open Go.Proofs.YtpikndeefiediaaGreatDoor.B
open Go.RowKit

end Go.Proofs.YtpikndeefiediaaGreatDoor.O

namespace Go.Proofs.YtpikndeefiediaaGreatDoor.O
open Go.Proofs.YtpikndeefiediaaGreatDoor.B
open Go.RowKit

def kyL (k : Ky) : List Value := [.string k.name, .int .i64 k.size, .int .i64 k.time, .bool k.dir]
def kyV (k : Ky) : Value := .agg #[.string k.name, .int .i64 k.size, .int .i64 k.time, .bool k.dir]
theorem same_symm {P : Program} {f : FuncId} {a : Array Value} {w : World} {v : Value} (h : Calls P f a w fun e w' => e = .returned v ∧ w = w') : Calls P f a w fun e w' => e = .returned v ∧ w' = w := h.mono fun e w' ⟨p, q⟩ => ⟨p, q.symm⟩
end Go.Proofs.YtpikndeefiediaaGreatDoor.O
