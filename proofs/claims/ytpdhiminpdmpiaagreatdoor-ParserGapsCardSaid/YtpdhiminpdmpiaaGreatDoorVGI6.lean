/-
 The walk of ParserGaps.
-/
import Derived.Test.YtpdhiminpdmpiaaGreatDoorVGI5
import Derived.Test.YtpdhiminpdmpiaaGreatDoorVBD
import Derived.Test.YtpdhiminpdmpiaaGreatDoorVGH1
import Derived.Test.YtpdhiminpdmpiaaGreatDoorVR
import Derived.Test.YtpdhiminpdmpiaaGreatDoorVX9
import Derived.Test.YtpdhiminpdmpiaaGreatDoorVPP0
set_option linter.unusedVariables false
set_option linter.unusedSimpArgs false
set_option linter.unusedSectionVars false
set_option linter.unusedVariables false
set_option linter.unusedSimpArgs false
set_option linter.unusedSectionVars false
namespace Go.Proofs.YtpdhiminpdmpiaaGreatDoor
open Go.RowKit Go.Lib
open Lx (Tk)
open Px (Txt TyE VarD DataD TraitD BoundD ImplD ArgD ExprD StmtD ArmD FuncD ModD)

def mod0 : ModD := ⟨[], [], [], [], [], []⟩
theorem parse_some {l : List UInt8} {M : ModD} {e o : Nat} (h : Px.parseP l = (some M, e, o)) : e = 0 ∧ o = 0 := by
  obtain ⟨ts, er, a, hr⟩ : ∃ ts er a, Lx.lexL l = (ts, er, a) := ⟨_, _, _, rfl⟩
  by_cases he : er = 0
  · subst he
    have hp := parseP_ok hr
    cases hm : Px.module l.length 6001 ts with
    | ok M' r =>
      rw [hm] at hp
      rw [hp] at h
      simp only [Prod.mk.injEq] at h
      exact ⟨h.2.1.symm, h.2.2.symm⟩
    | bad r =>
      rw [hm] at hp
      rw [hp] at h
      cases r <;> simp at h
  · exfalso
    apply he
    unfold Px.parseP at h
    rw [hr] at h
    cases er with
    | zero => rfl
    | succ n => simp at h
/-- Parse, with its module in memory, also where there is an error -/
theorem parse_mod (s : ByteArray) (w : World) (hs : s.size ≤ 140737488355328) (hL : Libs w) (om : Option ModD) (e o : Nat) (h : Px.parseP s.data.toList = (om, e, o)) :
    Calls Tryz.prog 14 #[.string s] w fun en w' => (∃ p1 c1 p2 c2 p3 c3 p4 c4 p5 c5, en = .returned (.tuple #[.agg #[.string ⟨(om.getD mod0).name.toArray⟩, .slice p1 (om.getD mod0).uses.length c1, .slice p2 (om.getD mod0).datas.length c2, .slice p3 (om.getD mod0).traits.length c3, .slice p4 (om.getD mod0).impls.length c4, .slice p5 (om.getD mod0).funcs.length c5], .int .i64 e, .int .i64 o]) ∧
      ModIn w' (om.getD mod0) [.string ⟨(om.getD mod0).name.toArray⟩, .slice p1 (om.getD mod0).uses.length c1, .slice p2 (om.getD mod0).datas.length c2, .slice p3 (om.getD mod0).traits.length c3, .slice p4 (om.getD mod0).impls.length c4, .slice p5 (om.getD mod0).funcs.length c5]) ∧ Fr [] w w' := by
  refine (parse_spec s w hs hL _ h).mono ?_
  rintro en w' ⟨hf, hm⟩
  cases om with
  | none => exact ⟨⟨none, 0, none, 0, none, 0, none, 0, none, 0, hm, _, _, _, _, _, rfl, .inl ⟨rfl, _, _, rfl⟩, .inl ⟨rfl, _, _, rfl⟩, .inl ⟨rfl, _, _, rfl⟩, .inl ⟨rfl, _, _, rfl⟩, .inl ⟨rfl, _, _, rfl⟩⟩, hf⟩
  | some M =>
    obtain ⟨cs, rfl, hr⟩ := hm
    obtain ⟨rfl, rfl⟩ := parse_some h
    have hM := ModIn.of (ModG.of hr)
    obtain ⟨p1, c1, p2, c2, p3, c3, p4, c4, p5, c5, rfl⟩ := hM.six
    exact ⟨⟨_, _, _, _, _, _, _, _, _, _, rfl, hM⟩, hf⟩
theorem laid_sim : ∀ (xs : List (List UInt8 × Tk)) (k : Nat), Sim (xs.map (·.2)) (Lx.laidK k xs)
  | [], _ => trivial
  | x :: r, k => ⟨rfl, rfl, rfl, laid_sim r _⟩
/-- with other gaps: the same module, or the same error at the same token -/
theorem gaps_law {l : List UInt8} {ts : List Tk} {a : Nat} (h : Lx.lexL l = (ts, 0, a)) (gs : List Nat) (hl : l.length ≤ 1000) :
    ∃ om om' e o o', Px.parseP l = (om, e, o) ∧ Px.parseP (Lx.laidT (gapped gs 0 ts)) = (om', e, o') ∧ factsM false (om.getD mod0) = factsM false (om'.getD mod0) ∧ (factsM false (om'.getD mod0)).length ≤ 900000 ∧
      (e = 0 ∨ (e = 5 ∧ o = l.length ∧ o' = (Lx.laidT (gapped gs 0 ts)).length) ∨ (e = 4 ∧ ∃ k, k < ts.length ∧ placeL ts (o : Int) = k ∧ (offsL (gapped gs 0 ts))[k]? = some (o' : Int))) := by
  obtain ⟨hn, hs⟩ := laid_short h gs hl
  obtain ⟨xs, hxs⟩ : ∃ xs, xs = gapped gs 0 ts := ⟨_, rfl⟩
  have hlx := Lx.laid_lex h (gapped gs 0 ts) (gapped_map gs ts 0) (fun x hx => Lx.gaps_ok _ (gapped_mem gs ts 0 x hx)) (by omega)
  have hsim : Sim ts (Lx.laidK 0 (gapped gs 0 ts)) := by
    have := laid_sim (gapped gs 0 ts) 0
    rwa [gapped_map] at this
  rw [← hxs] at hlx hsim ⊢
  have hnn := nn_module l.length (Lx.laidT xs).length 6001 ts _ hsim
  cases hm : Px.module l.length 6001 ts with
  | ok M r =>
    rw [hm] at hnn
    cases hm' : Px.module (Lx.laidT xs).length 6001 (Lx.laidK 0 xs) with
    | bad r' => rw [hm'] at hnn; exact hnn.elim
    | ok M' r' =>
      rw [hm'] at hnn
      have hfew := facts_few (off := false) hm'
      rw [Lx.laidK_len, hxs, gapped_len] at hfew
      exact ⟨some M, some M', 0, 0, 0, parseP_good h hm, parseP_good hlx hm', facts_like hnn.1, by simp only [Option.getD_some]; omega, .inl rfl⟩
  | bad r =>
    rw [hm] at hnn
    cases hm' : Px.module (Lx.laidT xs).length 6001 (Lx.laidK 0 xs) with
    | ok M' r' => rw [hm'] at hnn; exact hnn.elim
    | bad r' =>
      rw [hm'] at hnn
      cases r with
      | nil =>
        cases r' with
        | cons _ _ => exact hnn.elim
        | nil => exact ⟨none, none, 5, _, _, parseP_end h hm, parseP_end hlx hm', rfl, by decide, .inr (.inl ⟨rfl, rfl, rfl⟩)⟩
      | cons t r =>
        cases r' with
        | nil => exact hnn.elim
        | cons t' r' =>
          refine ⟨none, none, 4, _, _, parseP_bad h hm, parseP_bad hlx hm', rfl, by decide, .inr (.inr ⟨rfl, ?_⟩)⟩
          obtain ⟨u, hu⟩ := (ll_module l.length l.length 6001).s1 ts
          obtain ⟨u', hu'⟩ := (ll_module (Lx.laidT xs).length (Lx.laidT xs).length 6001).s1 (Lx.laidK 0 xs)
          rw [hm] at hu
          rw [hm'] at hu'
          have hu1 : ts = u ++ t :: r := hu
          have hu2 : Lx.laidK 0 xs = u' ++ t' :: r' := hu'
          have e1 := hsim.len
          have e2 : (t :: r).length = (t' :: r').length := Sim.len hnn
          have e3 : ts.length = u.length + (t :: r).length := by rw [hu1, List.length_append]
          have e4 : (Lx.laidK 0 xs).length = u'.length + (t' :: r').length := by rw [hu2, List.length_append]
          have e5 : u.length = u'.length := by omega
          have hk : ts[u.length]? = some t := by rw [hu1]; simp
          refine ⟨u.length, by rw [e3]; simp, place_of (lex_sorted h) hk, ?_⟩
          unfold offsL
          rw [hu2, e5]
          simp
theorem gapV_keep {w w' : World} {v : Value} {gs : List Nat} (h : GapV w v gs) (hf : Fr [] w w') : GapV w' v gs := by
  rcases h with h | ⟨A, c, e, h1, h2, h3, h4, h5⟩
  · exact .inl h
  · exact .inr ⟨A, c, e, h1, h2, fun hne => fr_lt2 hf (h3 hne), fun i n hi => (World.cell?_of_block (w := w) (by rw [add_block]; exact hf.block _ (h3 (by rintro rfl; simp at hi)) (by simp))).trans (h4 i n hi), h5⟩
theorem len_intQ (n : Int) : (intQ n).len = 1 := rfl
set_option maxRecDepth 100000 in
set_option maxHeartbeats 3200000 in
theorem pgaps_any (s : ByteArray) (gs : List Nat) (gv : Value) (w : World) (hs : s.size ≤ 140737488355328) (hg : GapV w gv gs) (hL : Libs w) (h0 : 0 < w.heap.size) :
    Calls Tryz.prog 4 #[.string s, gv] w (PGood w) := by
  have HL := Lib.hid hL
  have HG := Lib.hid hg
  obtain ⟨ga, gc, rfl, hgc, hgm⟩ := hg.shape
  clear hL hg
  by_cases hbig : 1000 < s.size
  · go_enter Tryz.func4, Tryz.ntmps4
    go_wp2_with fail
    refine (phead_any w HL.out).mono ?_
    rintro e w1 ⟨rfl, hf1⟩
    have HF1 := Lib.hid hf1
    clear hf1
    go_wp2_with fail
    refine (tokens_long s 1000 _ hbig).mono ?_
    rintro e w' ⟨rfl, rfl⟩
    go_wp2_with fail
    go_ret
    exact ⟨rfl, HF1.out⟩
  obtain ⟨ts, er, at', hr⟩ : ∃ ts er at', Lx.lexL s.data.toList = (ts, er, at') := ⟨_, _, _, rfl⟩
  have HR := Lib.hid hr
  have HSZ : s.size ≤ 1000 := by omega
  by_cases he0 : er = 0
  · subst he0
    have hfew := (lex_facts hr).2.2.1
    have hsl : s.data.toList.length = s.size := by simp
    obtain ⟨hn1, hn2⟩ := laid_short hr gs (by omega)
    obtain ⟨om, om', pe, px, py, hp1, hp2, hfc, hfl, hcase⟩ := gaps_law hr gs (by omega)
    rw [hsl] at hcase
    obtain ⟨A, hA⟩ : ∃ A, A = om.getD mod0 := ⟨_, rfl⟩
    obtain ⟨B, hB⟩ : ∃ B, B = om'.getD mod0 := ⟨_, rfl⟩
    rw [← hA, ← hB] at hfc
    rw [← hB] at hfl
    have HP1 := Lib.hid hp1
    have HP2 := Lib.hid hp2
    have HFC := Lib.hid hfc
    have HC := Lib.hid hcase
    have HAe := Lib.hid hA
    have HBe := Lib.hid hB
    have hxl : (gapped gs 0 ts).length = ts.length := gapped_len gs ts 0
    clear hr hp1 hp2 hfc hcase hA hB
    go_enter Tryz.func4, Tryz.ntmps4
    go_wp2_with fail
    refine (phead_any w HL.out).mono ?_
    rintro e w1 ⟨rfl, hf1⟩
    go_wp2_with fail
    refine (tokens_short s 1000 _ HSZ (by decide) (Nat.lt_of_lt_of_le h0 hf1.size)).mono ?_
    rintro e w2 ⟨a, cap, Tb, rfl, hT, hTb, hcap, hf2⟩
    rw [HR.out] at hT hcap
    rw [HR.out]
    have HT := Lib.hid hT
    have HF2 := Lib.hid (hf1.trans hf2)
    have hcap' : ts.length ≤ cap := hcap
    clear hT hf2 hf1 hcap
    go_wp2_with fail
    refine (laid_any ts gs a cap Tb _ _ HT.out hn1 hcap' hTb (by exact gapV_keep HG.out HF2.out) hn2).mono ?_
    rintro e w3 ⟨X, v, hX, rfl, hLs, hf3⟩
    have HX := Lib.hid hX
    have HLS := Lib.hid hLs.row
    obtain ⟨pv, cv, rfl⟩ := hLs.shape
    rw [hxl] at HLS
    simp only [hxl]
    have hXs : X.size ≤ 11000 := by have : X.data.toList.length = X.size := by simp
                                    rw [hX] at this; omega
    have hXl : (Lx.laidT (gapped gs 0 ts)).length = X.size := by rw [← hX]; simp
    have HF3 := Lib.hid (HF2.out.trans hf3)
    have HT3 := Lib.hid (HT.out.same (hf3.block Tb hTb (by simp)))
    have hTb3 := fr_lt2 hf3 hTb
    clear hX hLs hf3 HT hTb
    go_wp2_with fail
    refine (parse_mod s _ hs (HL.out.fr HF3.out) om pe px HP1.out).mono ?_
    rintro e w4 ⟨⟨a1, ac1, a2, ac2, a3, ac3, a4, ac4, a5, ac5, rfl, hm⟩, hf4⟩
    rw [← HAe.out] at hm ⊢
    have HM1 := Lib.hid hm
    have HF4 := Lib.hid ((HF3.out.trans hf4).alloc (.cells #[.string ⟨A.name.toArray⟩, .slice a1 A.uses.length ac1, .slice a2 A.datas.length ac2, .slice a3 A.traits.length ac3, .slice a4 A.impls.length ac4, .slice a5 A.funcs.length ac5] 29))
    have hff : Fr [] w3 (w4.alloc (.cells #[.string ⟨A.name.toArray⟩, .slice a1 A.uses.length ac1, .slice a2 A.datas.length ac2, .slice a3 A.traits.length ac3, .slice a4 A.impls.length ac4, .slice a5 A.funcs.length ac5] 29)) := hf4.alloc _
    have HT4 := Lib.hid (HT3.out.same (hff.block Tb hTb3 (by simp)))
    have hTb4 := fr_lt2 hff hTb3
    have HLS4 := Lib.hid (HLS.out.mono (N' := fun _ => True) (fun k hk hl => ⟨trivial, hff.block k hl (by simp)⟩))
    have HBA : Hid (Blk (w4.alloc (.cells #[.string ⟨A.name.toArray⟩, .slice a1 A.uses.length ac1, .slice a2 A.datas.length ac2, .slice a3 A.traits.length ac3, .slice a4 A.impls.length ac4, .slice a5 A.funcs.length ac5] 29)) w4.heap.size 29 #[.string ⟨A.name.toArray⟩, .slice a1 A.uses.length ac1, .slice a2 A.datas.length ac2, .slice a3 A.traits.length ac3, .slice a4 A.impls.length ac4, .slice a5 A.funcs.length ac5]) := Lib.hid (Blk.new _ _ _)
    have HMA := Lib.hid (HM1.out.keep ((Fr.refl _ _).alloc (.cells #[.string ⟨A.name.toArray⟩, .slice a1 A.uses.length ac1, .slice a2 A.datas.length ac2, .slice a3 A.traits.length ac3, .slice a4 A.impls.length ac4, .slice a5 A.funcs.length ac5] 29)))
    clear hm hf4 hff HT3 hTb3 HLS HM1 HF3
    go_wp2_with fail
    refine (parse_mod X _ (by omega) (HL.out.fr HF4.out) om' pe py (by rw [HX.out]; exact HP2.out)).mono ?_
    rintro e w5 ⟨⟨b1, bc1, b2, bc2, b3, bc3, b4, bc4, b5, bc5, rfl, hm⟩, hf5⟩
    rw [← HBe.out] at hm ⊢
    have HM2 := Lib.hid hm
    have HF5 := Lib.hid (HF4.out.trans hf5)
    have HT5 := Lib.hid (HT4.out.same (hf5.block Tb hTb4 (by simp)))
    have hTb5 := fr_lt2 hf5 hTb4
    have HLS5 := Lib.hid (HLS4.out.mono (N' := fun _ => True) (fun k hk hl => ⟨trivial, hf5.block k hl (by simp)⟩))
    have HBA5 := Lib.hid (HBA.out.keep hf5 (by simp))
    have HMA5 := Lib.hid (HMA.out.keep hf5)
    have hA5 := HBA5.out.lt
    have m0 := (HBA5.out.cell 0 : w5.cell? ⟨w4.heap.size, 0, none⟩ = some (.string ⟨A.name.toArray⟩))
    have m1 := (HBA5.out.cell 1 : w5.cell? ⟨w4.heap.size, 1, none⟩ = some (.slice a1 A.uses.length ac1))
    have m2 := (HBA5.out.cell 2 : w5.cell? ⟨w4.heap.size, 2, none⟩ = some (.slice a2 A.datas.length ac2))
    have m3 := (HBA5.out.cell 3 : w5.cell? ⟨w4.heap.size, 3, none⟩ = some (.slice a3 A.traits.length ac3))
    have m4 := (HBA5.out.cell 4 : w5.cell? ⟨w4.heap.size, 4, none⟩ = some (.slice a4 A.impls.length ac4))
    have m5 := (HBA5.out.cell 5 : w5.cell? ⟨w4.heap.size, 5, none⟩ = some (.slice a5 A.funcs.length ac5))
    clear hm hf5 HT4 hTb4 HLS4 HBA HMA HF4
    have hen : ((pe : Int) != (pe : Int)) = false := by simp
    go_wp2_with fail
    have hff : Fr [] w5 (w5.alloc (.cells #[.string ⟨B.name.toArray⟩, .slice b1 B.uses.length bc1, .slice b2 B.datas.length bc2, .slice b3 B.traits.length bc3, .slice b4 B.impls.length bc4, .slice b5 B.funcs.length bc5] 29)) := (Fr.refl _ _).alloc _
    refine (same_facts A B false _ _ _ (by exact HMA5.out.keep hff) (by exact HM2.out.keep hff) HFC.out hfl).mono ?_
    rintro e w6 ⟨rfl, hf6⟩
    have hf56 := hff.trans hf6
    have HF6 := Lib.hid (HF5.out.trans hf56)
    have HT6 := Lib.hid (HT5.out.same (hf56.block Tb hTb5 (by simp)))
    have hTb6 := fr_lt2 hf56 hTb5
    have HLS6 := Lib.hid (HLS5.out.mono (N' := fun _ => True) (fun k hk hl => ⟨trivial, hf56.block k hl (by simp)⟩))
    clear hff hf6 hf56 HF5 HT5 hTb5 HLS5 HMA5 HM2 HBA5 m0 m1 m2 m3 m4 m5 hA5 hen
    rcases HC.out with rfl | ⟨rfl, rfl, hpy⟩ | ⟨rfl, k, hk, hpl, hof⟩
    · clear HC
      go_wp2_with fail
      go_ret
      exact ⟨rfl, HF6.out⟩
    · rw [hXl] at hpy
      subst hpy
      have e1 : ((s.size : Int) == (s.size : Int)) = true := by simp
      have e2 : ((X.size : Int) == (X.size : Int)) = true := by simp
      clear HC
      go_wp2_with fail
      go_ret
      exact ⟨rfl, HF6.out⟩
    · have hl : (offsL (gapped gs 0 ts) ++ [((Lx.laidT (gapped gs 0 ts)).length : Int)]).length = ts.length + 1 := by rw [List.length_append, offsL_len, hxl]; rfl
      have hat : (offsL (gapped gs 0 ts) ++ [((Lx.laidT (gapped gs 0 ts)).length : Int)])[k]? = some (py : Int) := by rw [List.getElem?_append_left (by rw [offsL_len, hxl]; exact hk)]; exact hof
      obtain ⟨g, c, ds, e, hg1, hg2, hg3, hrep, hcell⟩ := row_at (v := .slice pv (ts.length + 1) cv) (by rw [hl]; exact HLS6.out) len_intQ hat
      rw [hl] at e hg2
      simp only [Value.slice.injEq] at e
      obtain ⟨rfl, _, rfl⟩ := e
      rw [intQ, rep_int] at hrep
      obtain ⟨c1, rfl, _⟩ := hrep
      have hc0 := hcell 0 (by omega)
      simp only [List.getElem?_cons_zero, Nat.add_zero, Nat.mul_one] at hc0
      have hkd : decide ((k : Int) < (ts.length : Int)) = true := by simp; omega
      have hkd' : decide (k < ts.length) = true := by simp; omega
      have hkI : (k : Int) < (ts.length : Int) + 1 := by omega
      have hgm3 := hg3
      unfold maxLen at hgm3
      have e3 : ((py : Int) == (py : Int)) = true := by simp
      have HPL := Lib.hid hpl
      clear HC hof hat hcell hl hpl
      go_wp2_with fail
      refine (place_any ts (px : Int) a cap Tb _ HT6.out (by omega) hcap' hTb6).mono ?_
      rintro e w7 ⟨rfl, rfl⟩
      rw [HPL.out]
      go_wp2_with fail
      go_ret
      exact ⟨rfl, HF6.out⟩
  · have hd : ((er : Int) == 0) = false := by rw [beq_eq_false_iff_ne]; omega
    have hdn : (er == 0) = false := by rw [beq_eq_false_iff_ne]; omega
    go_enter Tryz.func4, Tryz.ntmps4
    go_wp2_with fail
    refine (phead_any w HL.out).mono ?_
    rintro e w1 ⟨rfl, hf1⟩
    go_wp2_with fail
    refine (tokens_short s 1000 _ HSZ (by decide) (Nat.lt_of_lt_of_le h0 hf1.size)).mono ?_
    rintro e w2 ⟨a, cap, Tb, rfl, hT, hTb, hcap, hf2⟩
    rw [HR.out] at hT hcap
    rw [HR.out]
    have HF2 := Lib.hid (hf1.trans hf2)
    clear hf1 hf2 hT hTb hcap hr
    go_wp2_with fail
    go_ret
    exact ⟨rfl, HF2.out⟩
end Go.Proofs.YtpdhiminpdmpiaaGreatDoor
