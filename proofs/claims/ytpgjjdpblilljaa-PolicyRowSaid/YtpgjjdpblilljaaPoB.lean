/- All that policy stands on, in one place. -/
import Derived.Test.YtpgjjdpblilljaaPoA
import Derived.Test.YtpgjjdpblilljaaTkC
import Derived.Test.YtpgjjdpblilljaaStE
import Derived.Test.YtpgjjdpblilljaaPdI
import Derived.Test.YtpgjjdpblilljaaSdB
import Derived.Test.YtpgjjdpblilljaaEwD
namespace Go.Proofs.Ytpgjjdpblilljaa
set_option linter.unusedSimpArgs false
set_option linter.unusedVariables false
open Evn
/-- What a policy that may be tells of its bands and slots. -/
theorem polR_bands {p : Pl} (h : polR p = true) (hk : p.kind = 2) : bandsOk p.bands = true := by
  unfold polR at h
  rw [hk] at h
  simp at h
  exact h.1
theorem polR_slots {p : Pl} (h : polR p = true) (hk : p.kind = 4) : Sdl.SOk p.period p.slots := by
  unfold polR at h
  rw [hk] at h
  simp at h
  exact Sdl.SOk.of h.1.1 h.1.2
end Go.Proofs.Ytpgjjdpblilljaa
