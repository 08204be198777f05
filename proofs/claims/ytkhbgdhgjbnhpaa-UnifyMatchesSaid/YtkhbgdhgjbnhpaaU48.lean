/-
  The walk of UnifyMatches: both answers of the inner matching.
-/
import Derived.Test.YtkhbgdhgjbnhpaaU48n
import Derived.Test.YtkhbgdhgjbnhpaaU48s
namespace Go.Proofs.Ytkhbgdhgjbnhpaa
open Go.RowKit Go.Lib

theorem matches_any (P T : Ty) (l : List Ty) (cs es : List Value) (v : Value) (w : World) (hP : TyV w (fun _ => True) P cs) (hT : TyV w (fun _ => True) T es) (hL : TysV w (fun _ => True) l v) (hwp : ∀ i ∈ Un.pars P, (Lit.int .i64 i).wf = true) :
    Calls Try.prog 6 #[.agg cs.toArray, .agg es.toArray, v] w (LookP true w) := by
  cases h : Un.matched l.length P T with
  | none => exact matches_any_n P T l cs es v w hP hT hL hwp h
  | some mm => exact matches_any_s P T l cs es v w hP hT hL hwp mm h
end Go.Proofs.Ytkhbgdhgjbnhpaa
