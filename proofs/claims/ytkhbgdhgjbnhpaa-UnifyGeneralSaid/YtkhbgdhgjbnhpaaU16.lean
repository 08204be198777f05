/-
  Numbers in memory; the walks of isTooDeep, slices.ContainsFunc over numbers, refuseIf, variable, slices.Clip.
-/
import Derived.Test.YtkhbgdhgjbnhpaaU15
import Derived.WalkSmall
import Derived.Defers
import Derived.Recover
set_option linter.unusedVariables false
set_option linter.unusedSimpArgs false
set_option linter.unusedSectionVars false
namespace Go.Proofs.Ytkhbgdhgjbnhpaa
open Go.RowKit Go.Lib
open Un (kd nm ar size sizes depth depths)

def qInt (n : Int) : Q := .int n .nil
theorem ln_qInt (n : Int) : (qInt n).ln = 1 := rfl
def IntsV (w : World) (N : Nat → Prop) (l : List Int) (v : Value) : Prop := InN w N (.sl 3 1 l.length (rowsQ qInt l) .nil) [v]
theorem rowsQ_int {w : World} {N : Nat → Prop} : ∀ {l : List Int} {xs : List Value}, InN w N (rowsQ qInt l) xs → xs = l.map (Value.int .i64)
  | [], xs, h => by rw [rowsQ, InN] at h; exact h
  | a :: r, xs, h => by
    rw [rowsQ] at h
    change InN w N (.int a (rowsQ qInt r)) xs at h
    rw [InN] at h
    obtain ⟨c, rfl, h⟩ := h
    rw [rowsQ_int h]; rfl
theorem inn_ints {w : World} {N : Nat → Prop} : ∀ (l : List Int), InN w N (rowsQ qInt l) (l.map (Value.int .i64))
  | [] => by rw [rowsQ, InN]; rfl
  | a :: r => by
    rw [rowsQ]
    change InN w N (.int a (rowsQ qInt r)) _
    rw [InN]
    exact ⟨_, rfl, inn_ints r⟩
theorem IntsV.keep0 {w w' : World} {N : Nat → Prop} {l : List Int} {v : Value} (h : IntsV w N l v) (hf : Fr [] w w') : IntsV w' N l v := InN.keep0 h hf
theorem IntsV.shape {w : World} {N : Nat → Prop} {l : List Int} {v : Value} (h : IntsV w N l v) : ∃ p c, v = .slice p l.length c := by
  rcases InN.slice h with ⟨p, c, rfl, h0⟩ | ⟨b, o, cap, xs, rfl, _⟩
  · exact ⟨p, c, by rw [h0]⟩
  · exact ⟨_, _, rfl⟩
theorem IntsV.len {w : World} {N : Nat → Prop} {l : List Int} {v : Value} (h : IntsV w N l v) : l.length ≤ maxLen := InN.slLen h
/-- numbers in a block -/
def IntsAt (w : World) (N : Nat → Prop) (l : List Int) (b o : Nat) : Prop := N b ∧ b < w.heap.size ∧ ∀ i, i < l.length → w.cell? ⟨b, o + i, none⟩ = (l[i]?).map (Value.int .i64)
theorem IntsV.cases {w : World} {N : Nat → Prop} {l : List Int} {v : Value} (h : IntsV w N l v) :
    (l = [] ∧ ∃ p c, v = .slice p 0 c) ∨ (0 < l.length ∧ ∃ b o cap, v = .slice (some ⟨b, o, none⟩) l.length cap ∧ l.length ≤ cap ∧ cap ≤ maxLen ∧ IntsAt w N l b o) := by
  rcases InN.slice h with ⟨p, c, rfl, h0⟩ | ⟨b, o, cap, xs, rfl, h1, h2, h3, h4, h5, h6, h7, h8⟩
  · exact .inl ⟨List.eq_nil_of_length_eq_zero h0, p, c, rfl⟩
  · exact .inr ⟨h1, b, o, cap, rfl, h2, h3, h4, h5, fun i hi => by rw [h7 i (by omega), rowsQ_int h8, List.getElem?_map]⟩
theorem IntsAt.el {w wr : World} {N : Nat → Prop} {l : List Int} {b o : Nat} (h : IntsAt w N l b o) {X : List Nat} (hf : Fr X w wr) (hX : ∀ k ∈ X, ¬ N k) {i : Nat} {n : Int} (hn : l[i]? = some n) :
    b < wr.heap.size ∧ wr.cell? ⟨b, o + i, none⟩ = some (.int .i64 n) := by
  obtain ⟨hN, hb, hc⟩ := h
  have hi : i < l.length := by
    rcases Nat.lt_or_ge i l.length with h | h
    · exact h
    · rw [List.getElem?_eq_none h] at hn; cases hn
  refine ⟨Nat.lt_of_lt_of_le hb hf.size, ?_⟩
  rw [World.cell?_of_block (w := w) (hf.block b hb (fun hx => hX b hx hN)), hc i hi, hn]; rfl
theorem enters_deep : Enters 64 := fun _ _ => by kernel_rfl
theorem toodeep_any (n : Int) (w : World) : Calls Try.prog 64 #[.int .i64 n] w fun e w' => e = .returned (.bool (decide (8 < n))) ∧ w = w' := by
  go_enter Try.func64, Try.ntmps64
  go_wp2_with fail
  go_ret
  exact ⟨rfl, rfl⟩
set_option maxHeartbeats 1600000 in
theorem indexdeep_any (l : List Int) (v : Value) (w : World) (N : Nat → Prop) (h : IntsV w N l v) :
    Calls Try.prog 85 #[v, .func (.func 64) #[] #[]] w (IdxP (l.any fun n => decide (8 < n)) w) := by
  have hE' : ∀ (args : Array Value) (w : World), (callFunc 64 args).run Try.prog w = .ok (.enter 64 args) w := enters_deep
  have hlm := h.len
  unfold maxLen at hlm
  rcases h.cases with ⟨rfl, p, c, rfl⟩ | ⟨hn, b, o, cap, rfl, hc, hm, hat⟩
  · clear h
    simp only [List.length_nil] at hlm ⊢
    go_enter Try.func85, Try.ntmps85
    go_wp2_with fail
    go_loopw [8] (fun v wr => v = .int .i64 0 ∧ wr = w) (fun v _ => 0)
    case atStart => exact ⟨rfl, rfl⟩
    case round =>
      obtain ⟨rfl, rfl⟩ := hrel
      go_wp2_with fail
      go_ret
      exact ⟨_, rfl, rfl, Fr.refl _ _⟩
  · have HA := Lib.hid hat
    unfold maxLen at hm
    clear hat h
    go_enter Try.func85, Try.ntmps85
    go_wp2_with fail
    go_loopw [8] (fun v wr => ∃ i : Nat, v = .int .i64 i ∧ i ≤ l.length ∧ wr = w ∧ Hid (∀ j, j < i → ∀ t, l[j]? = some t → decide (8 < t) = false)) (fun v _ => l.length - (RowKit.intOf v).toNat)
    case atStart => exact ⟨0, rfl, by omega, rfl, Lib.hid (fun j hj => by omega)⟩
    case round =>
      obtain ⟨i, rfl, hi, rfl, HG⟩ := hrel
      by_cases hlt : i < l.length
      · have hd2 : decide ((i : Int) < (l.length : Int)) = true := by simp; omega
        have hd3 : decide (i < l.length) = true := by simpa using hlt
        obtain ⟨hb, g0⟩ := HA.out.el (Fr.refl [] wr) (by simp) (List.getElem?_eq_getElem hlt)
        obtain ⟨a, ha⟩ : ∃ a, a = l[i] := ⟨_, rfl⟩
        have HMA : Hid (l[i]? = some a) := Lib.hid (by rw [ha]; exact List.getElem?_eq_getElem _)
        rw [← ha] at g0
        clear ha
        go_wp2_with fail
        refine (toodeep_any a _).mono ?_
        rintro e w2 ⟨rfl, rfl⟩
        clear g0
        cases hgd : decide (8 < a) with
        | true =>
          have hall : (l.any fun n => decide (8 < n)) = true := by
            rw [List.any_eq_true]
            exact ⟨a, List.mem_of_getElem? HMA.out, hgd⟩
          have HAL := Lib.hid hall
          have hp : decide (0 ≤ (i : Int)) = true := by simp
          have HP := Lib.hid hp
          clear hgd hall hp
          go_wp2_with fail
          go_ret
          exact ⟨_, rfl, by rw [HAL.out]; exact HP.out, Fr.refl _ _⟩
        | false =>
          have HB := Lib.hid hgd
          clear hgd
          go_wp2_with fail
          go_roundw
          case rel => exact ⟨i + 1, by go_num, by omega, (by first | rfl | trivial), Lib.hid (fun j hj t ht => by
            by_cases hj' : j < i
            · exact HG.out j hj' t ht
            · obtain rfl : j = i := by omega
              rw [HMA.out] at ht
              cases ht
              exact HB.out)⟩
          case measure => simp [RowKit.intOf]; omega
      · have hd2 : decide ((i : Int) < (l.length : Int)) = false := by simp; omega
        have hd3 : decide (i < l.length) = false := by simpa using hlt
        have hall : (l.any fun n => decide (8 < n)) = false := by
          rw [List.any_eq_false]
          intro t ht
          obtain ⟨j, hj, rfl⟩ := List.getElem_of_mem ht
          have := HG.out j (by omega) _ (List.getElem?_eq_getElem hj)
          simpa using this
        have HAL := Lib.hid hall
        clear hall
        go_wp2_with fail
        go_ret
        exact ⟨_, rfl, by rw [HAL.out]; rfl, Fr.refl _ _⟩
theorem containsdeep_any (l : List Int) (v : Value) (w : World) (N : Nat → Prop) (h : IntsV w N l v) :
    Calls Try.prog 63 #[v, .func (.func 64) #[] #[]] w (LookP (l.any fun n => decide (8 < n)) w) := by
  have HC := Lib.hid (indexdeep_any l v w N h)
  obtain ⟨p, c, rfl⟩ := h.shape
  clear h
  go_enter Try.func63, Try.ntmps63
  go_wp2_with fail
  refine HC.out.mono ?_
  rintro e w2 ⟨n, rfl, hn, hf⟩
  have HN := Lib.hid hn
  have HFR := Lib.hid hf
  clear hn hf
  go_wp2_with fail
  go_ret
  exact ⟨by rw [← HN.out]; rfl, HFR.out⟩
/-- unifying ends with an error -/
def failE (c : Int) : Ending := .panicked [{ v := .iface 64 (.int .i64 c), recovered := false }]
theorem refuse_no (c : Int) (w : World) : Calls Try.prog 38 #[.bool false, .int .i64 c] w fun e w' => e = .returned (.tuple #[]) ∧ w = w' := by
  go_enter Try.func38, Try.ntmps38
  go_wp2_with fail
  go_end0
  exact ⟨rfl, rfl⟩
theorem refuse_yes (c : Int) (w : World) : Calls Try.prog 38 #[.bool true, .int .i64 c] w fun e w' => e = failE c ∧ w = w' := by
  go_enter Try.func38, Try.ntmps38
  go_wp2_with fail
  exact ⟨rfl, rfl, rfl⟩
set_option maxHeartbeats 1600000 in
theorem variable_any (n : Int) (w : World) : Calls Try.prog 87 #[.int .i64 n] w fun e w' => e = .returned (.agg #[.int .i64 9, .int .i64 n, .slice none 0 0]) ∧ Fr [] w w' := by
  go_enter Try.func87, Try.ntmps87
  go_wp2_with fail
  exact bodyPost_ret (v := .agg #[.int .i64 9, .int .i64 n, .slice none 0 0]) (by simp [results, Try.results87, go_sem]) rfl ⟨rfl, (Fr.refl _ _).alloc _⟩
theorem clip_any (p : Option Addr) (n c : Nat) (w : World) (hn : n ≤ c) (hc : c ≤ maxLen) : Calls Try.prog 70 #[.slice p n c] w fun e w' => e = .returned (.slice p n n) ∧ w = w' := by
  unfold maxLen at hc
  have h1 : decide ((n : Int) ≤ (c : Int)) = true := by simp; omega
  go_enter Try.func70, Try.ntmps70
  go_wp2_with fail
  go_ret
  exact ⟨rfl, rfl⟩
end Go.Proofs.Ytkhbgdhgjbnhpaa
