/-
 Walks of symbol and token.
-/
import Derived.Test.YtpdhiminpdmpiaaGreatDoorVW3
import Derived.IntWalk
import Derived.StringKeys
set_option linter.unusedVariables false
set_option linter.unusedSimpArgs false
set_option linter.unusedSectionVars false
set_option linter.unusedVariables false
set_option linter.unusedSimpArgs false
set_option linter.unusedSectionVars false
namespace Go.Proofs.YtpdhiminpdmpiaaGreatDoor
open Go.RowKit Go.Lib
def symE (s : ByteArray) (k n : Nat) : Ending :=
 if n = 0 then .returned (.tuple #[.agg #[.int .i64 0, .string ⟨#[]⟩, .int .i64 0, .int .i64 k], .int .i64 3])
 else .returned (.tuple #[.agg #[.int .i64 3, .string (s.extract k (k + n)), .int .i64 0, .int .i64 k], .int .i64 0])
set_option maxRecDepth 100000 in
theorem symbol_any (s : ByteArray) (b k : Nat) (w : World) (hs : s.size ≤ maxLen) (hk : k < s.size) (hb : b < w.heap.size) (hS : SymAt w b) :
  Calls Tryz.prog 188 #[.pointer (some ⟨b, 0, none⟩), .string s, .int .i64 k] w fun e w' =>
   e = symE s k (Lx.symLen (s.data.toList.drop k)) ∧ Below w.heap.size w w' := by
 have hsm := hs
 unfold maxLen at hs
 obtain ⟨m, n, D, hc, hm, hown, hat⟩ := hS
 have HAT := Lib.hid hat
 clear hat
 go_enter Tryz.func188, Tryz.ntmps188
 go_wp2
 go_loop [8, 9] (fun v _ => ∃ j : Nat, j ≤ 2 ∧ k + j ≤ s.size ∧ v = .int .i64 j ∧ Lx.symLen (s.data.toList.drop k) = Lx.symFrom j (s.data.toList.drop k)) (fun v _ => (RowKit.intOf v).toNat)
 case atStart =>
  refine ⟨min 2 (s.size - k), by omega, by omega, ?_, by simp [Lx.symLen]⟩
  congr 1; omega
 case round =>
  obtain ⟨j, hj, hj2, rfl, hr⟩ := hrel
  have HR := Lib.hid hr
  clear hr
  cases j with
  | zero =>
   go_wp2
   have h0 : Lx.symLen (s.data.toList.drop k) = 0 := by rw [HR.out]; rfl
   refine bodyPost_ret (v := .tuple #[.agg #[.int .i64 0, .string ⟨#[]⟩, .int .i64 0, .int .i64 k], .int .i64 3]) (by simp [results, Tryz.results188, go_sem]) rfl ⟨?_, ?_⟩
   ·unfold symE; rw [if_pos h0]
   ·exact (Below.refl _ _).alloc (Nat.le_refl _) _
  | succ j =>
   have hown1 := hown.alloc (.cells #[Value.int IntKind.i64 0, Value.string { data := #[] }, Value.int IntKind.i64 0, Value.int IntKind.i64 0] 45)
   have hw : (IntKind.i64.wrap ((k : Int) + ((j + 1 : Nat) : Int))) = ((k + (j + 1) : Nat) : Int) := by rw [IntWalk.i64_in _ (by omega)]; omega
   cases hq : Lx.isSym ((s.data.toList.drop k).take (j + 1)) with
   | true =>
    have HQ := Lib.hid hq
    clear hq
    have h0 : Lx.symLen (s.data.toList.drop k) = j + 1 := by rw [HR.out, Lx.symFrom, if_pos HQ.out]
    have H0 := Lib.hid h0
    clear h0
    go_wp2_with (at_lookup; (refine wpList_lookup_own_boolAt _ rfl _ _ 130 rfl 9 4 keyed9 Tryz.underlying130 Tryz.underlying4 (zero4 _) m n D rfl hown1 _ _ rfl (WideMaps.keyOf_string_mk Tryz.underlying9 ?c1) true ?c2 ?_))
    case c1 => unfold maxLen; simp; omega
    case c2 => simpa [HQ.out] using HAT.out (List.take (j + 1) (List.drop k s.data.toList))
    refine bodyPost_ret (v := .tuple #[.agg #[.int .i64 3, .string (s.extract k (k + (j + 1))), .int .i64 0, .int .i64 k], .int .i64 0]) (by simp [results, Tryz.results188, go_sem]) rfl ⟨?_, ?_⟩
    ·unfold symE; rw [H0.out, if_neg (by omega)]
    ·exact (Below.refl _ _).alloc (Nat.le_refl _) _
   | false =>
    have HQ := Lib.hid hq
    clear hq
    have h0 : Lx.symLen (s.data.toList.drop k) = Lx.symFrom j (s.data.toList.drop k) := by rw [HR.out, Lx.symFrom, if_neg (by rw [HQ.out]; simp)]
    have H0 := Lib.hid h0
    clear h0
    go_wp2_with (at_lookup; refine wpList_lookup_own_boolAt _ rfl _ _ 130 rfl 9 4 keyed9 Tryz.underlying130 Tryz.underlying4 (zero4 _) m n D rfl hown1 _ _ rfl (WideMaps.keyOf_string_mk Tryz.underlying9 ?c3) false ?c4 ?_)
    case c3 => unfold maxLen; simp; omega
    case c4 => simpa [HQ.out] using HAT.out (List.take (j + 1) (List.drop k s.data.toList))
    go_round
    case rel => exact ⟨j, by omega, by omega, by go_num, H0.out⟩
    case measure => simp [RowKit.intOf]
end Go.Proofs.YtpdhiminpdmpiaaGreatDoor
