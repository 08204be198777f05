/-
  The walk of args: which Args of two terms have to become equal.
-/
import Derived.Test.YtkhbgdhgjbnhpaaU18
set_option linter.unusedVariables false
set_option linter.unusedSimpArgs false
set_option linter.unusedSectionVars false
namespace Go.Proofs.Ytkhbgdhgjbnhpaa
open Go.RowKit Go.Lib
open Un (kd nm ar size sizes depth depths)

def qPair (x : Int × Int) : Q := .int x.1 (.int x.2 .nil)
theorem ln_qPair (x : Int × Int) : (qPair x).ln = 2 := rfl
def TmV (w : World) (N : Nat → Prop) (x : Tm) (cs : List Value) : Prop := InN w N (qTm x) cs
theorem TmV.shape {w : World} {N : Nat → Prop} {x : Tm} {cs : List Value} (h : TmV w N x cs) : ∃ p c pv cv, cs = [.int .i64 (kd x.t), .int .i64 (nm x.t), .slice p (ar x.t).length c, .slice pv x.args.length cv, .int .i64 x.next] ∧ TyV w N x.t [.int .i64 (kd x.t), .int .i64 (nm x.t), .slice p (ar x.t).length c] ∧ IntsV w N x.args (.slice pv x.args.length cv) := by
  unfold TmV qTm at h
  obtain ⟨d1, d2, rfl, m1, m2⟩ := h.split
  obtain ⟨p, c, rfl, _⟩ := TyV.shape m1
  obtain ⟨pv, cv, d3, rfl, m3, m4⟩ := inn_sl m2
  obtain ⟨d4, rfl, m5⟩ := inn_int m4
  obtain rfl := inn_nil m5
  exact ⟨p, c, pv, cv, rfl, m1, m3⟩
theorem TmV.mk {w : World} {N : Nat → Prop} {x : Tm} {a b c v : Value} (h : TyV w N x.t [a, b, c]) (h' : IntsV w N x.args v) : TmV w N x [a, b, c, v, .int .i64 x.next] :=
  InN.app (cs := [a, b, c]) (y := .sl 3 1 x.args.length (rowsQ qInt x.args) (.int x.next .nil)) h (InN.mk_sl h' (InN.mk_int (InN.mk_nil _ _)))
theorem info_pair : (Try.prog.info? 110).map (fun i => (i.zero, i.size, i.bytes)) = some (some (.agg #[.int .i64 0, .int .i64 0]), 2, 16) := by kernel_rfl
namespace Un
def headOk (a b : Tm) : Bool := (kd a.t == kd b.t && nm a.t == nm b.t) && decide (a.args.length = b.args.length)
end Un
theorem zip_take {α β : Type} {l : List α} {m : List β} {i : Nat} (h1 : i < l.length) (h2 : i < m.length) : (l.zip m).take (i + 1) = (l.zip m).take i ++ [(l[i], m[i])] := by
  rw [List.take_succ_eq_append_getElem (by simp; omega), List.getElem_zip]
set_option maxRecDepth 100000 in
set_option maxHeartbeats 3200000 in
theorem args_bad (b : Nat) (x y : Tm) (N N' : Nat → Prop) (cs ds : List Value) (w : World) (h : TmV w N x cs) (h' : TmV w N' y ds) (hno : Un.headOk x y = false) :
    Calls Try.prog 89 #[.pointer (some ⟨b, 0, none⟩), .agg cs.toArray, .agg ds.toArray] w fun e w' => e = failE 8 ∧ Fr [] w w' := by
  obtain ⟨p, c, pv, cv, rfl, hx, hxa⟩ := h.shape
  obtain ⟨p', c', pv', cv', rfl, hy, hya⟩ := h'.shape
  have hl1 := hxa.len
  have hl2 := hya.len
  unfold maxLen at hl1 hl2
  obtain ⟨w1, hw1⟩ : ∃ w1, w1 = (w.alloc (.cells #[.int .i64 (kd x.t), .int .i64 (nm x.t), .slice p (ar x.t).length c, .slice pv x.args.length cv, .int .i64 x.next] 109)).alloc (.cells #[.int .i64 (kd y.t), .int .i64 (nm y.t), .slice p' (ar y.t).length c', .slice pv' y.args.length cv', .int .i64 y.next] 109) := ⟨_, rfl⟩
  have HF0 : Hid (Fr [] w w1) := Lib.hid (by rw [hw1]; exact ((Fr.refl _ _).alloc _).alloc _)
  have HA0 : Hid (Blk w1 w.heap.size 109 #[.int .i64 (kd x.t), .int .i64 (nm x.t), .slice p (ar x.t).length c, .slice pv x.args.length cv, .int .i64 x.next]) := Lib.hid (by rw [hw1]; exact (Blk.new _ _ _).alloc _)
  have HB0 : Hid (Blk w1 (w.heap.size + 1) 109 #[.int .i64 (kd y.t), .int .i64 (nm y.t), .slice p' (ar y.t).length c', .slice pv' y.args.length cv', .int .i64 y.next]) := Lib.hid (by rw [hw1]; exact Blk.new_at (by simp))
  have HH := Lib.hid (samehead_any x.t y.t _ _ w1 N N' (hx.keep0 HF0.out) (hy.keep0 HF0.out))
  obtain ⟨S, hS⟩ : ∃ S, S = (kd x.t == kd y.t && nm x.t == nm y.t) := ⟨_, rfl⟩
  rw [← hS] at HH
  have hno2 : S = true → ¬ x.args.length = y.args.length := fun e h => by
    unfold Un.headOk at hno
    rw [← hS, e] at hno
    simp [h] at hno
  have HNO := Lib.hid hno2
  clear h h' hx hxa hy hya hno hno2 hS
  go_enter Try.func89, Try.ntmps89
  go_wp2_with fail
  rw [← hw1]
  clear hw1
  refine HH.out.mono ?_
  rintro e w2 ⟨rfl, hf2⟩
  have HF2 := Lib.hid (HF0.out.trans hf2)
  have HA2 := Lib.hid (HA0.out.keep hf2 (by simp))
  have HB2 := Lib.hid (HB0.out.keep hf2 (by simp))
  clear hf2
  cases S with
  | false =>
    go_wp2_with fail
    refine (refuse_yes 8 _).mono ?_
    rintro e w3 ⟨rfl, rfl⟩
    unfold failE
    go_wp2_with fail
    exact ⟨rfl, rfl, HF2.out⟩
  | true =>
    have a3 : w2.cell? ⟨w.heap.size, 3, none⟩ = some (.slice pv x.args.length cv) := HA2.out.cell 3
    have b3 : w2.cell? ⟨w.heap.size + 1, 3, none⟩ = some (.slice pv' y.args.length cv') := HB2.out.cell 3
    have al : w.heap.size < w2.heap.size := HA2.out.lt
    have bl : w.heap.size + 1 < w2.heap.size := HB2.out.lt
    have hne : ((x.args.length : Int) != (y.args.length : Int)) = true := by have := HNO.out rfl; simp; omega
    go_wp2_with fail
    refine (refuse_yes 8 _).mono ?_
    rintro e w3 ⟨rfl, rfl⟩
    unfold failE
    go_wp2_with fail
    exact ⟨rfl, rfl, HF2.out⟩
/-- the pairs that are made -/
def PairsP (l : List (Int × Int)) (w : World) (e : Ending) (w' : World) : Prop := ∃ v, e = .returned v ∧ OwnL w' (fun _ => False) w.heap.size 110 2 l.length (rowsQ qPair l) v ∧ Fr [] w w' ∧ (l = [] → v = .slice none 0 0)
set_option maxRecDepth 100000 in
set_option maxHeartbeats 3200000 in
theorem args_ok (b : Nat) (x y : Tm) (N N' : Nat → Prop) (cs ds : List Value) (w : World) (h : TmV w N x cs) (h' : TmV w N' y ds) (hok : Un.headOk x y = true) (hsz : x.args.length ≤ 100000) :
    Calls Try.prog 89 #[.pointer (some ⟨b, 0, none⟩), .agg cs.toArray, .agg ds.toArray] w (PairsP (x.args.zip y.args) w) := by
  obtain ⟨p, c, pv, cv, rfl, hx, hxa⟩ := h.shape
  obtain ⟨p', c', pv', cv', rfl, hy, hya⟩ := h'.shape
  obtain ⟨w1, hw1⟩ : ∃ w1, w1 = (w.alloc (.cells #[.int .i64 (kd x.t), .int .i64 (nm x.t), .slice p (ar x.t).length c, .slice pv x.args.length cv, .int .i64 x.next] 109)).alloc (.cells #[.int .i64 (kd y.t), .int .i64 (nm y.t), .slice p' (ar y.t).length c', .slice pv' y.args.length cv', .int .i64 y.next] 109) := ⟨_, rfl⟩
  have HF0 : Hid (Fr [] w w1) := Lib.hid (by rw [hw1]; exact ((Fr.refl _ _).alloc _).alloc _)
  have HA0 : Hid (Blk w1 w.heap.size 109 #[.int .i64 (kd x.t), .int .i64 (nm x.t), .slice p (ar x.t).length c, .slice pv x.args.length cv, .int .i64 x.next]) := Lib.hid (by rw [hw1]; exact (Blk.new _ _ _).alloc _)
  have HB0 : Hid (Blk w1 (w.heap.size + 1) 109 #[.int .i64 (kd y.t), .int .i64 (nm y.t), .slice p' (ar y.t).length c', .slice pv' y.args.length cv', .int .i64 y.next]) := Lib.hid (by rw [hw1]; exact Blk.new_at (by simp))
  have HH := Lib.hid (samehead_any x.t y.t _ _ w1 N N' (hx.keep0 HF0.out) (hy.keep0 HF0.out))
  have hok2 : (kd x.t == kd y.t && nm x.t == nm y.t) = true ∧ x.args.length = y.args.length := by
    unfold Un.headOk at hok
    rw [Bool.and_eq_true, decide_eq_true_eq] at hok
    exact hok
  rw [hok2.1] at HH
  obtain ⟨l, hl⟩ : ∃ l, l = x.args := ⟨_, rfl⟩
  obtain ⟨m, hm⟩ : ∃ m, m = y.args := ⟨_, rfl⟩
  rw [← hl] at hxa hok2 HA0 hsz hw1 ⊢
  rw [← hm] at hya hok2 HB0 hw1 ⊢
  have hlm : m.length = l.length := hok2.2.symm
  have HLM := Lib.hid hlm
  have HXA := Lib.hid hxa
  have HYA := Lib.hid hya
  obtain ⟨kx, hkx⟩ : ∃ kx, kx = l.length := ⟨_, rfl⟩
  rw [hlm, ← hkx] at HB0 HYA hw1
  rw [← hkx] at HA0 HXA hsz
  have HKX := Lib.hid hkx
  have hzl : (l.zip m).length = kx := by simp [hlm, hkx]
  have HZL := Lib.hid hzl
  rw [hlm, ← hkx]
  have hne : ((kx : Int) != (kx : Int)) = false := by simp
  clear h h' hx hxa hy hya hok hok2 hlm hkx hzl hl hm
  go_enter Try.func89, Try.ntmps89
  go_wp2_with fail
  rw [← hw1]
  clear hw1
  refine HH.out.mono ?_
  rintro e w2 ⟨rfl, hf2⟩
  have HF2 := Lib.hid (HF0.out.trans hf2)
  have HA2 := Lib.hid (HA0.out.keep hf2 (by simp))
  have HB2 := Lib.hid (HB0.out.keep hf2 (by simp))
  clear hf2
  have a3 : w2.cell? ⟨w.heap.size, 3, none⟩ = some (.slice pv kx cv) := HA2.out.cell 3
  have b3 : w2.cell? ⟨w.heap.size + 1, 3, none⟩ = some (.slice pv' kx cv') := HB2.out.cell 3
  have al : w.heap.size < w2.heap.size := HA2.out.lt
  have bl : w.heap.size + 1 < w2.heap.size := HB2.out.lt
  go_wp2_with fail
  refine (refuse_no 8 _).mono ?_
  rintro e w2 ⟨rfl, rfl⟩
  go_wp2_with fail
  clear a3 b3 al bl
  obtain ⟨i0, hi0, hz0, hz1, hz2⟩ := info_parts info_pair
  have HI0 := Lib.hid hi0
  clear hi0
  go_loopw [7, 28] (fun v z wr => ∃ i : Nat, z = .int .i64 i ∧ i ≤ kx ∧ Hid (Fr [] w wr) ∧ Hid (Blk wr w.heap.size 109 #[.int .i64 (kd x.t), .int .i64 (nm x.t), .slice p (ar x.t).length c, .slice pv kx cv, .int .i64 x.next]) ∧ Hid (Blk wr (w.heap.size + 1) 109 #[.int .i64 (kd y.t), .int .i64 (nm y.t), .slice p' (ar y.t).length c', .slice pv' kx cv', .int .i64 y.next]) ∧ Hid (OwnL wr (fun _ => False) w2.heap.size 110 2 i (rowsQ qPair ((l.zip m).take i)) v) ∧ Hid (w2.heap.size ≤ wr.heap.size) ∧ Hid (i = 0 → v = .slice none 0 0)) (fun _ z _ => kx - (RowKit.intOf z).toNat)
  case atStart => exact ⟨0, rfl, Nat.zero_le _, HF2, HA2, HB2, Lib.hid (by rw [List.take_zero, rowsQ]; exact OwnL.nil _ _ _ _ _), Lib.hid (Nat.le_refl _), Lib.hid (fun _ => rfl)⟩
  case round =>
    obtain ⟨i, rfl, hi, HFR, HA3, HB3, HO, HZ, HNV⟩ := hrel
    obtain ⟨po, co, rfl⟩ := HO.out.shape
    by_cases hlt : i < kx
    · have hd2 : decide ((i : Int) < (kx : Int)) = true := by simp; omega
      have hd3 : decide (i < kx) = true := by simpa using hlt
      have hi1 : i < l.length := by have := HKX.out; omega
      have hi2 : i < m.length := by have := HLM.out; omega
      obtain ⟨bx, ox, rfl, hax⟩ : ∃ b o, pv = some ⟨b, o, none⟩ ∧ IntsAt w N l b o := by
        have h0 := HXA.out
        rw [HKX.out] at h0
        rcases h0.cases with ⟨rfl, _⟩ | ⟨_, b, o, cap, heq, _, _, hat⟩
        · simp at hi1
        · simp only [Value.slice.injEq] at heq
          exact ⟨b, o, heq.1, hat⟩
      obtain ⟨by', oy, rfl, hay⟩ : ∃ b o, pv' = some ⟨b, o, none⟩ ∧ IntsAt w N' m b o := by
        have h0 := HYA.out
        rw [HKX.out, ← HLM.out] at h0
        rcases h0.cases with ⟨rfl, _⟩ | ⟨_, b, o, cap, heq, _, _, hat⟩
        · simp at hi2
        · simp only [Value.slice.injEq] at heq
          exact ⟨b, o, heq.1, hat⟩
      obtain ⟨hb1, g1⟩ := hax.el HFR.out (by simp) (List.getElem?_eq_getElem hi1)
      obtain ⟨hb2, g2⟩ := hay.el HFR.out (by simp) (List.getElem?_eq_getElem hi2)
      have HZT := Lib.hid (zip_take hi1 hi2)
      obtain ⟨u, hu⟩ : ∃ u, u = l[i] := ⟨_, rfl⟩
      obtain ⟨z, hz⟩ : ∃ z, z = m[i] := ⟨_, rfl⟩
      rw [← hu] at g1 HZT
      rw [← hz] at g2 HZT
      have a3 : wr.cell? ⟨w.heap.size, 3, none⟩ = some (.slice (some ⟨bx, ox, none⟩) kx cv) := HA3.out.cell 3
      have b3 : wr.cell? ⟨w.heap.size + 1, 3, none⟩ = some (.slice (some ⟨by', oy, none⟩) kx cv') := HB3.out.cell 3
      have al : w.heap.size < wr.heap.size := HA3.out.lt
      have bl : w.heap.size + 1 < wr.heap.size := HB3.out.lt
      obtain ⟨r1, r2, r3, r4⟩ := ownl_ready2 (news := [.int .i64 u, .int .i64 z]) (qb := qPair (u, z)) (w5 := wr.drew) (HO.out.keep (Fr.refl [] wr).drew (by simp)) (by have := HZ.out; exact this) (InN.mk_int (InN.mk_int (InN.mk_nil _ _))) 110
      have R1 := Lib.hid r1
      have R2 := Lib.hid r2
      have R3 := Lib.hid r3
      have hsz2 : w.heap.size + 1 < w2.heap.size := HB2.out.lt
      clear r1 r2 r3 hu hz hi1 hi2 hax hay
      go_wp2_with fail
      go_region_law (refine step_append_ownl _ (by rfl) _ _ 111 (by rfl) (fun _ => False) w2.heap.size 110 i0 _ 2 16 Try.underlying111 HI0.out hz0 hz1 hz2 rfl (by decide) (.slice po i co) i 1 (rowsQ qPair ((l.zip m).take i)) (qPair (u, z)) (by rfl) R1.out ⟨wr.heap.size, 0, none⟩ 1 [.int .i64 u, .int .i64 z] (by rfl) rfl R2.out R3.out (by omega) (by decide) r4 ?_; intro p4 c4 w4 hL4 hg4 hv4; have HL4 := Lib.hid hL4; have HG4 := Lib.hid hg4; clear hL4 hg4 hv4)
      all_goals
        have hown : ∀ k, (Value.slice po i co).ownBlock = some k → w2.heap.size ≤ k := fun k hk => (R1.out.own k hk).1
        have HF4 : Hid (Fr [] w w4) := Lib.hid (Fr.grown ((HFR.out.alloc (.cells #[.int .i64 u, .int .i64 z] 110)).drew) HG4.out (fun k hk => .inr (by have := hown k hk; omega)))
        have hkeep : ∀ k, k < w2.heap.size → w4.heap[k]? = wr.heap[k]? := fun k hk => by
          have h1 := HZ.out
          rw [HG4.out.block k (by show k < (wr.alloc _).heap.size; simp; omega) (fun e => by have := hown k e.symm; omega)]
          exact Below.heap_alloc wr _ k (by omega)
        have HA4 : Hid (Blk w4 w.heap.size 109 #[.int .i64 (kd x.t), .int .i64 (nm x.t), .slice p (ar x.t).length c, .slice (some ⟨bx, ox, none⟩) kx cv, .int .i64 x.next]) := Lib.hid ((hkeep _ (by omega)).trans HA3.out)
        have HB4 : Hid (Blk w4 (w.heap.size + 1) 109 #[.int .i64 (kd y.t), .int .i64 (nm y.t), .slice p' (ar y.t).length c', .slice (some ⟨by', oy, none⟩) kx cv', .int .i64 y.next]) := Lib.hid ((hkeep _ (by omega)).trans HB3.out)
        have HZ4 : Hid (w2.heap.size ≤ w4.heap.size) := Lib.hid (by have h1 := HG4.out.size; have h2 := HZ.out; have h3 : (wr.alloc (Obj.cells #[Value.int .i64 u, .int .i64 z] 110)).heap.size = wr.heap.size + 1 := by simp
                                                                    exact Nat.le_trans (by omega) (Nat.le_trans (Nat.le_of_eq h3.symm) h1))
        clear hown hkeep a3 b3 al bl g1 g2 r4
        go_wp2_with fail
        go_roundw
        case rel => exact ⟨i + 1, by go_num, by omega, HF4, HA4, HB4, Lib.hid (by rw [HZT.out, rowsQ_snoc]; exact HL4.out), HZ4, Lib.hid (fun h => by omega)⟩
        case measure => simp [RowKit.intOf]; omega
    · have hd2 : decide ((i : Int) < (kx : Int)) = false := by simp; omega
      have hd3 : decide (i < kx) = false := by simpa using hlt
      obtain rfl : i = kx := by omega
      have hle : w.heap.size ≤ w2.heap.size := HF2.out.size
      go_wp2_with fail
      go_ret
      refine ⟨_, rfl, ?_, HFR.out, fun h => HNV.out (by have h1 := HZL.out; rw [h] at h1; simpa using h1.symm)⟩
      have h1 := HO.out
      have h2 : (l.zip m).take i = l.zip m := List.take_of_length_le (by rw [HZL.out]; exact Nat.le_refl _)
      rw [h2] at h1
      rw [HZL.out]
      exact h1.weak hle (fun k _ h => h)
end Go.Proofs.Ytkhbgdhgjbnhpaa
