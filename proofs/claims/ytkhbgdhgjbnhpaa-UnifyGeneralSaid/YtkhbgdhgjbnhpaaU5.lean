/-
  The walks of slices.IndexFunc and slices.ContainsFunc over lists of types, for whatever function that looks at types.
-/
import Derived.Test.YtkhbgdhgjbnhpaaU4
set_option linter.unusedVariables false
set_option linter.unusedSimpArgs false
set_option linter.unusedSectionVars false
namespace Go.Proofs.Ytkhbgdhgjbnhpaa
open Go.RowKit Go.Lib
open Un (kd nm ar)

/-- an answer of a function that looks -/
def LookP (r : Bool) (w : World) (e : Ending) (w' : World) : Prop := e = .returned (.bool r) ∧ Fr [] w w'
def IdxP (r : Bool) (w : World) (e : Ending) (w' : World) : Prop := ∃ n : Int, e = .returned (.int .i64 n) ∧ decide (0 ≤ n) = r ∧ Fr [] w w'
set_option maxHeartbeats 1600000 in
theorem indexfunc_any (F : Nat) (caps : Array Value) (N : Nat → Prop) (good : Ty → Bool) (hE : Enters F) (l : List Ty) (w : World)
    (hF : ∀ a ∈ l, ∀ (cs : List Value) (wr : World), Fr [] w wr → TyV wr N a cs → Calls Try.prog F (#[.agg cs.toArray] ++ caps) wr (LookP (good a) wr))
    (v : Value) (h : TysV w N l v) :
    Calls Try.prog 92 #[v, .func (.func F) #[] caps] w (IdxP (l.any good) w) := by
  have hE' : ∀ (args : Array Value) (w : World), (callFunc F args).run Try.prog w = .ok (.enter F args) w := hE
  have HF := Lib.hid hF
  have hlm := h.len
  unfold maxLen at hlm
  clear hF
  rcases h.cases with ⟨rfl, p, c, rfl⟩ | ⟨hn, b, o, cap, rfl, hc, hm, hat⟩
  · clear h
    simp only [List.length_nil] at hlm ⊢
    go_enter Try.func92, Try.ntmps92
    go_wp2_with fail
    go_loopw [8] (fun v wr => v = .int .i64 0 ∧ wr = w) (fun v _ => 0)
    case atStart => exact ⟨rfl, rfl⟩
    case round =>
      obtain ⟨rfl, rfl⟩ := hrel
      go_wp2_with fail
      go_ret
      exact ⟨_, rfl, rfl, Fr.refl _ _⟩
  · have HA := Lib.hid hat
    obtain ⟨n, hn2⟩ : ∃ n, n = l.length := ⟨_, rfl⟩
    have HN2 := Lib.hid hn2
    unfold maxLen at hm
    rw [← hn2] at hlm hc hn ⊢
    clear hat h hn2
    go_enter Try.func92, Try.ntmps92
    go_wp2_with fail
    go_loopw [8] (fun v wr => ∃ i : Nat, v = .int .i64 i ∧ i ≤ n ∧ Hid (Fr [] w wr) ∧ Hid (∀ j, j < i → ∀ t, l[j]? = some t → good t = false)) (fun v _ => n - (RowKit.intOf v).toNat)
    case atStart => exact ⟨0, rfl, by omega, Lib.hid (Fr.refl _ _), Lib.hid (fun j hj => by omega)⟩
    case round =>
      obtain ⟨i, rfl, hi, HFR, HG⟩ := hrel
      by_cases hlt : i < n
      · have hd2 : decide ((i : Int) < (n : Int)) = true := by simp; omega
        have hd3 : decide (i < n) = true := by simpa using hlt
        have hi1 : i < l.length := by have := HN2.out; omega
        obtain ⟨p1, c1, k1, hb, g0, g1, g2⟩ := HA.out.el HFR.out (by simp) (List.getElem?_eq_getElem hi1)
        have K1 := Lib.hid k1
        obtain ⟨a, ha⟩ : ∃ a, a = l[i] := ⟨_, rfl⟩
        have HMA : Hid (l[i]? = some a) := Lib.hid (by rw [ha]; exact List.getElem?_eq_getElem _)
        rw [← ha] at g0 g1 g2 K1
        clear k1 ha hi1
        go_wp2_with fail
        refine (HF.out a (List.mem_of_getElem? HMA.out) _ _ HFR.out K1.out).mono ?_
        rintro e w2 ⟨rfl, hf2⟩
        have HF2 := Lib.hid (HFR.out.trans hf2)
        clear hf2 g0 g1 g2
        cases hgd : good a with
        | true =>
          have hall : l.any good = true := by
            rw [List.any_eq_true]
            exact ⟨a, List.mem_of_getElem? HMA.out, hgd⟩
          have HAL := Lib.hid hall
          have hp : decide (0 ≤ (i : Int)) = true := by simp
          have HP := Lib.hid hp
          clear hgd hall hp
          go_wp2_with fail
          go_ret
          exact ⟨_, rfl, by rw [HAL.out]; exact HP.out, HF2.out⟩
        | false =>
          have HB := Lib.hid hgd
          clear hgd
          go_wp2_with fail
          go_roundw
          case rel => exact ⟨i + 1, by go_num, by omega, HF2, Lib.hid (fun j hj t ht => by
            by_cases hj' : j < i
            · exact HG.out j hj' t ht
            · obtain rfl : j = i := by omega
              rw [HMA.out] at ht
              cases ht
              exact HB.out)⟩
          case measure => simp [RowKit.intOf]; omega
      · have hd2 : decide ((i : Int) < (n : Int)) = false := by simp; omega
        have hd3 : decide (i < n) = false := by simpa using hlt
        have hall : l.any good = false := by
          rw [List.any_eq_false]
          intro t ht
          obtain ⟨j, hj, rfl⟩ := List.getElem_of_mem ht
          have := HG.out j (by have := HN2.out; omega) _ (List.getElem?_eq_getElem hj)
          simp [this]
        have HAL := Lib.hid hall
        clear hall
        go_wp2_with fail
        go_ret
        exact ⟨_, rfl, by rw [HAL.out]; rfl, HFR.out⟩
theorem containsfunc_any (F : Nat) (caps : Array Value) (N : Nat → Prop) (good : Ty → Bool) (hE : Enters F) (l : List Ty) (w : World)
    (hF : ∀ a ∈ l, ∀ (cs : List Value) (wr : World), Fr [] w wr → TyV wr N a cs → Calls Try.prog F (#[.agg cs.toArray] ++ caps) wr (LookP (good a) wr))
    (v : Value) (h : TysV w N l v) :
    Calls Try.prog 77 #[v, .func (.func F) #[] caps] w (LookP (l.any good) w) := by
  have HC := Lib.hid (indexfunc_any F caps N good hE l w hF v h)
  obtain ⟨p, c, rfl⟩ := h.shape
  clear hF h
  go_enter Try.func77, Try.ntmps77
  go_wp2_with fail
  refine HC.out.mono ?_
  rintro e w2 ⟨n, rfl, hn, hf⟩
  have HN := Lib.hid hn
  have HFR := Lib.hid hf
  clear hn hf
  go_wp2_with fail
  go_ret
  exact ⟨by rw [← HN.out]; rfl, HFR.out⟩
end Go.Proofs.Ytkhbgdhgjbnhpaa
