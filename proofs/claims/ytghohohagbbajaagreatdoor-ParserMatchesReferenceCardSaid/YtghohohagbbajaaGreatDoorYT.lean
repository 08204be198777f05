/- part of the proof -/
import Derived.Test.YtghohohagbbajaaGreatDoorYA
set_option linter.unusedVariables false
set_option linter.unusedSimpArgs false
set_option linter.unusedSectionVars false
namespace Go.Proofs.YtghohohagbbajaaGreatDoor.Lx
theorem gap_f (a:UInt8) (z:List UInt8):gapLen false (a :: z)=if blankB a=true then gapLen false z+1 else if (a == 35)=true then gapLen true z+1 else 0:=by rw[gapLen]
def NonGap (c:UInt8):Prop:=blankB c=false∧c≠35
theorem NonGap.zero {c:UInt8} (h:NonGap c) (y:List UInt8):gapLen false (c :: y)=0:=by
 rw[gap_f,if_neg (by rw[h.1];decide),if_neg (by simpa using h.2)]
theorem NonGap.ne {c:UInt8} (h:NonGap c):c≠10:=by rintro rfl;exact absurd h.1 (by decide)
end Go.Proofs.YtghohohagbbajaaGreatDoor.Lx
