/-
  The walks of accepts, acceptsArgs and Valid.
-/
import Derived.Test.YtkhbgdhgjbnhpaaU11
set_option linter.unusedVariables false
set_option linter.unusedSimpArgs false
set_option linter.unusedSectionVars false
namespace Go.Proofs.Ytkhbgdhgjbnhpaa
open Go.RowKit Go.Lib
open Un (kd nm ar size sizes acc accs fits valid)

/-- a data type, of which the number of parameters matters -/
def qData (p : Int) : Q := .any (.any (.int p (.any (.any .nil))))
theorem ln_qData (p : Int) : (qData p).ln = 5 := rfl
def DatasV (w : World) (N : Nat → Prop) (ds : List Int) (v : Value) : Prop := InN w N (.sl 61 5 ds.length (rowsQ qData ds) .nil) [v]
/-- the cell of a data type's parameters -/
theorem DatasV.el {w : World} {N : Nat → Prop} {ds : List Int} {v : Value} (h : DatasV w N ds v) {i : Nat} (hi : i < ds.length) :
    ∃ b o cap, v = .slice (some ⟨b, o, none⟩) ds.length cap ∧ w.cell? ⟨b, o + i * 5 + 2, none⟩ = some (.int .i64 ds[i]) ∧ b < w.heap.size := by
  rcases InN.slice h with ⟨p, c, _, h0⟩ | ⟨b, o, cap, xs, rfl, h1, h2, h3, h4, h5, h6, h7, h8⟩
  · omega
  · obtain ⟨es, k1, k2, k3⟩ := InN.get (f := qData) (s := 5) ln_qData ds xs i ds[i] h8 (List.getElem?_eq_getElem hi)
    refine ⟨b, o, cap, rfl, ?_, h5⟩
    have := k3 2 (by omega)
    rw [Nat.add_assoc, h7 _ (by omega), this]
    unfold qData at k1
    rw [InN] at k1
    obtain ⟨v0, c0, rfl, _, k1⟩ := k1
    rw [InN] at k1
    obtain ⟨v1, c1, rfl, _, k1⟩ := k1
    rw [InN] at k1
    obtain ⟨c2, rfl, _⟩ := k1
    rfl
theorem DatasV.shape {w : World} {N : Nat → Prop} {l : List Int} {v : Value} (h : DatasV w N l v) : ∃ p c, v = .slice p l.length c := by
  rcases InN.slice h with ⟨p, c, rfl, h0⟩ | ⟨b, o, cap, xs, rfl, _⟩
  · exact ⟨p, c, by rw [h0]⟩
  · exact ⟨_, _, rfl⟩
/-- where types can be well-formed -/
structure ScV (w : World) (N : Nat → Prop) (b : Nat) (ds : List Int) (p : Int) (v : Value) : Prop where
  blk : Blk w b 83 #[v, .int .i64 p]
  datas : DatasV w N ds v
theorem ScV.keep {w w' : World} {N : Nat → Prop} {b : Nat} {ds : List Int} {p : Int} {v : Value} (h : ScV w N b ds p v) (hf : Fr [] w w') : ScV w' N b ds p v := ⟨h.blk.keep hf (by simp), InN.keep0 h.datas hf⟩
theorem any_not {α : Type} (f : α → Bool) : ∀ l : List α, l.any (fun a => !f a) = !l.all f
  | [] => rfl
  | a :: r => by rw [List.any_cons, List.all_cons, any_not f r]; cases f a <;> rfl
theorem enters_wrong : Enters 93 := fun _ _ => by kernel_rfl
set_option maxRecDepth 100000 in
set_option maxHeartbeats 1600000 in
theorem wrong_any (ds : List Int) (p n : Int) (k i : Int) (N N' : Nat → Prop) (b bt bs bl : Nat) (dv tv : Value) (a : Ty) (cs : List Value) (w : World) (hn : 0 < n) (hn8 : n ≤ 8)
    (hT : Blk w bt 24 #[.int .i64 k, .int .i64 i, tv]) (hS : Blk w bs 81 #[.pointer (some ⟨b, 0, none⟩)]) (hL : Blk w bl 3 #[.int .i64 n]) (hsc : ScV w N' b ds p dv) (h : TyV w N a cs)
    (hA : ∀ (cs : List Value) (w : World), ScV w N' b ds p dv → TyV w N a cs → Calls Try.prog 57 #[.pointer (some ⟨b, 0, none⟩), .agg cs.toArray, .int .i64 (n - 1)] w (LookP (acc ds p (n - 1) a) w)) :
    Calls Try.prog 93 #[.agg cs.toArray, .pointer (some ⟨bt, 0, none⟩), .pointer (some ⟨bs, 0, none⟩), .pointer (some ⟨bl, 0, none⟩)] w (LookP (!(fits k a && acc ds p (n - 1) a)) w) := by
  have HA := Lib.hid hA
  have HSC := Lib.hid hsc
  have HT := Lib.hid h
  obtain ⟨pa, ca, rfl, _⟩ := h.shape
  have t0 : w.cell? ⟨bt, 0, none⟩ = some (.int .i64 k) := hT.cell 0
  have tl : bt < w.heap.size := hT.lt
  have hbt : bt < w.heap.size := hT.lt
  obtain ⟨w1, hw1⟩ : ∃ w1, w1 = w.alloc (.cells #[.int .i64 (kd a), .int .i64 (nm a), .slice pa (ar a).length ca] 24) := ⟨_, rfl⟩
  have HF0 : Hid (Fr [] w w1) := Lib.hid (by rw [hw1]; exact (Fr.refl _ _).alloc _)
  have HB0 : Hid (Blk w1 w.heap.size 24 #[.int .i64 (kd a), .int .i64 (nm a), .slice pa (ar a).length ca]) := Lib.hid (by rw [hw1]; exact Blk.new _ _ _)
  have HS1 := Lib.hid (hS.keep HF0.out (by simp))
  have HL1 := Lib.hid (hL.keep HF0.out (by simp))
  -- what is said of arenas
  obtain ⟨r, hr⟩ : ∃ r, r = (k == 7 && kd a == 6) := ⟨_, rfl⟩
  have HR : Hid (fits k a = (Un.stored a || r)) := Lib.hid (by rw [hr]; rfl)
  clear h hT hS hL hsc hA
  have HST : Hid (Calls Try.prog 94 #[.agg #[.int .i64 (kd a), .int .i64 (nm a), .slice pa (ar a).length ca]] w1 (LookP (Un.stored a) w1)) := Lib.hid (isstored_any a _ w1 N (HT.out.keep0 HF0.out))
  have key : Calls Try.prog 93 #[.agg #[.int .i64 (kd a), .int .i64 (nm a), .slice pa (ar a).length ca], .pointer (some ⟨bt, 0, none⟩), .pointer (some ⟨bs, 0, none⟩), .pointer (some ⟨bl, 0, none⟩)] w (LookP (!((Un.stored a || r) && acc ds p (n - 1) a)) w) := by
    by_cases e7 : k = 7
    · have e1 : (k == 7) = true := by simp [e7]
      by_cases e6 : kd a = 6
      · have e2 : (kd a == 6) = true := by simp [e6]
        obtain rfl : r = true := by rw [hr, e1, e2]; rfl
        clear e7 e6 hr
        go_enter Try.func93, Try.ntmps93
        go_wp2_with fail
        rw [← hw1]
        clear hw1 t0
        refine HST.out.mono ?_
        rintro e w2 ⟨rfl, hf2⟩
        have HF2 := Lib.hid (HF0.out.trans hf2)
        have HB2 := Lib.hid (HB0.out.keep hf2 (by simp))
        have HS2 := Lib.hid (HS1.out.keep hf2 (by simp))
        have HL2 := Lib.hid (HL1.out.keep hf2 (by simp))
        clear hf2
        cases hst : Un.stored a with
        | true =>
          have HG := Lib.hid hst
          clear hst
          have c0 : w2.cell? ⟨w.heap.size, 0, none⟩ = some (.int .i64 (kd a)) := HB2.out.cell 0
          have c1 : w2.cell? ⟨w.heap.size, 1, none⟩ = some (.int .i64 (nm a)) := HB2.out.cell 1
          have c2 : w2.cell? ⟨w.heap.size, 2, none⟩ = some (.slice pa (ar a).length ca) := HB2.out.cell 2
          have s0 : w2.cell? ⟨bs, 0, none⟩ = some (.pointer (some ⟨b, 0, none⟩)) := HS2.out.cell 0
          have l0 : w2.cell? ⟨bl, 0, none⟩ = some (.int .i64 n) := HL2.out.cell 0
          have x0 : w.heap.size < w2.heap.size := HB2.out.lt
          have x1 : bs < w2.heap.size := HS2.out.lt
          have x2 : bl < w2.heap.size := HL2.out.lt
          go_wp2_with fail
          refine (HA.out _ _ (HSC.out.keep HF2.out) (HT.out.keep0 HF2.out)).mono ?_
          rintro e w3 ⟨rfl, hf3⟩
          have HF3 := Lib.hid (HF2.out.trans hf3)
          clear hf3 c0 c1 c2 s0 l0 x0 x1 x2
          go_wp2_with fail
          go_ret
          exact ⟨by rw [HG.out]; simp, HF3.out⟩
        | false =>
          have HG := Lib.hid hst
          clear hst
          have c0 : w2.cell? ⟨w.heap.size, 0, none⟩ = some (.int .i64 (kd a)) := HB2.out.cell 0
          have c1 : w2.cell? ⟨w.heap.size, 1, none⟩ = some (.int .i64 (nm a)) := HB2.out.cell 1
          have c2 : w2.cell? ⟨w.heap.size, 2, none⟩ = some (.slice pa (ar a).length ca) := HB2.out.cell 2
          have s0 : w2.cell? ⟨bs, 0, none⟩ = some (.pointer (some ⟨b, 0, none⟩)) := HS2.out.cell 0
          have l0 : w2.cell? ⟨bl, 0, none⟩ = some (.int .i64 n) := HL2.out.cell 0
          have x0 : w.heap.size < w2.heap.size := HB2.out.lt
          have x1 : bs < w2.heap.size := HS2.out.lt
          have x2 : bl < w2.heap.size := HL2.out.lt
          go_wp2_with fail
          refine (HA.out _ _ (HSC.out.keep HF2.out) (HT.out.keep0 HF2.out)).mono ?_
          rintro e w3 ⟨rfl, hf3⟩
          have HF3 := Lib.hid (HF2.out.trans hf3)
          clear hf3 c0 c1 c2 s0 l0 x0 x1 x2
          go_wp2_with fail
          go_ret
          exact ⟨by rw [HG.out]; simp, HF3.out⟩
      · have e2 : (kd a == 6) = false := by simp [e6]
        obtain rfl : r = false := by rw [hr, e1, e2]; rfl
        clear e7 e6 hr
        go_enter Try.func93, Try.ntmps93
        go_wp2_with fail
        rw [← hw1]
        clear hw1 t0
        refine HST.out.mono ?_
        rintro e w2 ⟨rfl, hf2⟩
        have HF2 := Lib.hid (HF0.out.trans hf2)
        have HB2 := Lib.hid (HB0.out.keep hf2 (by simp))
        have HS2 := Lib.hid (HS1.out.keep hf2 (by simp))
        have HL2 := Lib.hid (HL1.out.keep hf2 (by simp))
        clear hf2
        cases hst : Un.stored a with
        | true =>
          have HG := Lib.hid hst
          clear hst
          have c0 : w2.cell? ⟨w.heap.size, 0, none⟩ = some (.int .i64 (kd a)) := HB2.out.cell 0
          have c1 : w2.cell? ⟨w.heap.size, 1, none⟩ = some (.int .i64 (nm a)) := HB2.out.cell 1
          have c2 : w2.cell? ⟨w.heap.size, 2, none⟩ = some (.slice pa (ar a).length ca) := HB2.out.cell 2
          have s0 : w2.cell? ⟨bs, 0, none⟩ = some (.pointer (some ⟨b, 0, none⟩)) := HS2.out.cell 0
          have l0 : w2.cell? ⟨bl, 0, none⟩ = some (.int .i64 n) := HL2.out.cell 0
          have x0 : w.heap.size < w2.heap.size := HB2.out.lt
          have x1 : bs < w2.heap.size := HS2.out.lt
          have x2 : bl < w2.heap.size := HL2.out.lt
          go_wp2_with fail
          refine (HA.out _ _ (HSC.out.keep HF2.out) (HT.out.keep0 HF2.out)).mono ?_
          rintro e w3 ⟨rfl, hf3⟩
          have HF3 := Lib.hid (HF2.out.trans hf3)
          clear hf3 c0 c1 c2 s0 l0 x0 x1 x2
          go_wp2_with fail
          go_ret
          exact ⟨by rw [HG.out]; simp, HF3.out⟩
        | false =>
          have HG := Lib.hid hst
          clear hst
          go_wp2_with fail
          go_ret
          exact ⟨by rw [HG.out]; simp, HF2.out⟩
    · have e1 : (k == 7) = false := by simp [e7]
      obtain rfl : r = false := by rw [hr, e1]; rfl
      clear e7 hr
      go_enter Try.func93, Try.ntmps93
      go_wp2_with fail
      rw [← hw1]
      clear hw1 t0
      refine HST.out.mono ?_
      rintro e w2 ⟨rfl, hf2⟩
      have HF2 := Lib.hid (HF0.out.trans hf2)
      have HB2 := Lib.hid (HB0.out.keep hf2 (by simp))
      have HS2 := Lib.hid (HS1.out.keep hf2 (by simp))
      have HL2 := Lib.hid (HL1.out.keep hf2 (by simp))
      clear hf2
      cases hst : Un.stored a with
      | true =>
        have HG := Lib.hid hst
        clear hst
        have c0 : w2.cell? ⟨w.heap.size, 0, none⟩ = some (.int .i64 (kd a)) := HB2.out.cell 0
        have c1 : w2.cell? ⟨w.heap.size, 1, none⟩ = some (.int .i64 (nm a)) := HB2.out.cell 1
        have c2 : w2.cell? ⟨w.heap.size, 2, none⟩ = some (.slice pa (ar a).length ca) := HB2.out.cell 2
        have s0 : w2.cell? ⟨bs, 0, none⟩ = some (.pointer (some ⟨b, 0, none⟩)) := HS2.out.cell 0
        have l0 : w2.cell? ⟨bl, 0, none⟩ = some (.int .i64 n) := HL2.out.cell 0
        have x0 : w.heap.size < w2.heap.size := HB2.out.lt
        have x1 : bs < w2.heap.size := HS2.out.lt
        have x2 : bl < w2.heap.size := HL2.out.lt
        go_wp2_with fail
        refine (HA.out _ _ (HSC.out.keep HF2.out) (HT.out.keep0 HF2.out)).mono ?_
        rintro e w3 ⟨rfl, hf3⟩
        have HF3 := Lib.hid (HF2.out.trans hf3)
        clear hf3 c0 c1 c2 s0 l0 x0 x1 x2
        go_wp2_with fail
        go_ret
        exact ⟨by rw [HG.out]; simp, HF3.out⟩
      | false =>
        have HG := Lib.hid hst
        clear hst
        go_wp2_with fail
        go_ret
        exact ⟨by rw [HG.out]; simp, HF2.out⟩
  rw [← HR.out] at key
  exact key
theorem four_args (x a b c : Value) : (#[x] ++ #[a, b, c] : Array Value) = #[x, a, b, c] := by simp
/-- accepts, for some types -/
def AccAt (ds : List Int) (p n : Int) (N N' : Nat → Prop) (b : Nat) (dv : Value) (a : Ty) : Prop :=
  ∀ (cs : List Value) (w : World), ScV w N' b ds p dv → TyV w N a cs → Calls Try.prog 57 #[.pointer (some ⟨b, 0, none⟩), .agg cs.toArray, .int .i64 n] w (LookP (acc ds p n a) w)
set_option maxRecDepth 100000 in
set_option maxHeartbeats 1600000 in
theorem acceptsargs_any (ds : List Int) (p n num : Int) (N N' : Nat → Prop) (b : Nat) (dv : Value) (t : Ty) (cs : List Value) (w : World) (hn : 0 < n) (hn8 : n ≤ 8) (hsc : ScV w N' b ds p dv) (h : TyV w N t cs) (hA : ∀ a ∈ ar t, AccAt ds p (n - 1) N N' b dv a) :
    Calls Try.prog 82 #[.pointer (some ⟨b, 0, none⟩), .agg cs.toArray, .int .i64 num, .int .i64 n] w (LookP (decide (((ar t).length : Int) = num) && accs ds p (kd t) n (ar t)) w) := by
  obtain ⟨pt, ct, rfl, hat⟩ := h.shape
  have hlm := hat.len
  unfold maxLen at hlm
  obtain ⟨w1, hw1⟩ : ∃ w1, w1 = ((w.alloc (.cells #[.pointer (some ⟨b, 0, none⟩)] 81)).alloc (.cells #[.int .i64 (kd t), .int .i64 (nm t), .slice pt (ar t).length ct] 24)).alloc (.cells #[.int .i64 n] 3) := ⟨_, rfl⟩
  have HF0 : Hid (Fr [] w w1) := Lib.hid (by rw [hw1]; exact (((Fr.refl _ _).alloc _).alloc _).alloc _)
  have HBS : Hid (Blk w1 w.heap.size 81 #[.pointer (some ⟨b, 0, none⟩)]) := Lib.hid (by rw [hw1]; exact ((Blk.new _ _ _).alloc _).alloc _)
  have HBT : Hid (Blk w1 (w.heap.size + 1) 24 #[.int .i64 (kd t), .int .i64 (nm t), .slice pt (ar t).length ct]) := Lib.hid (by rw [hw1]; exact (Blk.new_at (by simp)).alloc _)
  have HBL : Hid (Blk w1 (w.heap.size + 1 + 1) 3 #[.int .i64 n]) := Lib.hid (by rw [hw1]; exact Blk.new_at (by simp))
  have HC : Hid (Calls Try.prog 77 #[.slice pt (ar t).length ct, .func (.func 93) #[] #[.pointer (some ⟨w.heap.size + 1, 0, none⟩), .pointer (some ⟨w.heap.size, 0, none⟩), .pointer (some ⟨w.heap.size + 1 + 1, 0, none⟩)]] w1 (LookP (!accs ds p (kd t) n (ar t)) w1)) := by
    have h1 := containsfunc_any 93 #[.pointer (some ⟨w.heap.size + 1, 0, none⟩), .pointer (some ⟨w.heap.size, 0, none⟩), .pointer (some ⟨w.heap.size + 1 + 1, 0, none⟩)] N (fun a => !(fits (kd t) a && acc ds p (n - 1) a)) enters_wrong (ar t) w1
      (fun a ha cs wr hf htv => by
        rw [four_args]
        exact wrong_any ds p n (kd t) (nm t) N N' b (w.heap.size + 1) w.heap.size (w.heap.size + 1 + 1) dv _ a cs wr hn hn8 (HBT.out.keep hf (by simp)) (HBS.out.keep hf (by simp)) (HBL.out.keep hf (by simp)) (hsc.keep (HF0.out.trans hf)) htv (hA a ha))
      _ (hat.keep0 HF0.out)
    rw [any_not, ← Un.accs_all] at h1
    exact Lib.hid h1
  clear hat h hsc hA
  by_cases hnum : ((ar t).length : Int) = num
  · have e1 : (((ar t).length : Int) == num) = true := by simp [hnum]
    have e2 : decide (((ar t).length : Int) = num) = true := by simp [hnum]
    have hr : (decide (((ar t).length : Int) = num) && accs ds p (kd t) n (ar t)) = accs ds p (kd t) n (ar t) := by rw [e2]; rfl
    rw [hr]
    clear hnum e2 hr
    go_enter Try.func82, Try.ntmps82
    go_wp2_with fail
    rw [← hw1]
    clear hw1
    refine HC.out.mono ?_
    rintro e w2 ⟨rfl, hf2⟩
    have HF2 := Lib.hid (HF0.out.trans hf2)
    clear hf2
    go_wp2_with fail
    go_ret
    exact ⟨by simp, HF2.out⟩
  · have e1 : (((ar t).length : Int) == num) = false := by simp [hnum]
    have e2 : decide (((ar t).length : Int) = num) = false := by simp [hnum]
    have hr : (decide (((ar t).length : Int) = num) && accs ds p (kd t) n (ar t)) = false := by rw [e2]; rfl
    rw [hr]
    clear hnum e2 hr
    go_enter Try.func82, Try.ntmps82
    go_wp2_with fail
    go_ret
    exact ⟨rfl, by rw [← hw1]; exact HF0.out⟩
end Go.Proofs.Ytkhbgdhgjbnhpaa
