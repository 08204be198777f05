/-
  For every text that consists of tokens, with other gaps between them it is the same module, apart from offsets, or has the same error at the same token, or at its end: ParserGaps returns true for every string and bytes, and reads them as they were.
  The conditions are the row's own: the seven package-level variables of the library that it lists hold what their initialisers lay (the card ties that to the program's text).
-/
import Derived.Test.YtpdhiminpdmpiaaGreatDoorVPP0
import Derived.Test.YtpdhiminpdmpiaaGreatDoorVGI6
import Derived.ChangeSlices
import Derived.Test.YtpdhiminpdmpiaaGreatDoorCards
import Derived.Test.YtpdhiminpdmpiaaGreatDoorTie
import Derived.SevenTiedAt
set_option linter.unusedVariables false
set_option linter.unusedSimpArgs false
set_option linter.unusedSectionVars false
namespace Go.Proofs.YtpdhiminpdmpiaaGreatDoor.fnParserGaps
open Go.ChangeShapes Go.WideShapes Go.ChangeAt Go.RowKit
open Go.ChangeMaps (open_string shut_string)

set_option maxRecDepth 100000 in
/-- the row's last step where of the world behind the call 'Below' alone is known, and the arguments hold slices -/
theorem post_kept2 {H : Type} {enc : TypeId × Value → H} {f : Func} {s : ChangeSpec} {fresh handsOn again : Bool} {W W' : World} {args : Array Value} {v : Value} {ds : List (DataW H)} {before : List MemPlace}
    (hW : DataW.Whole enc Tryz.prog f.params.toList s.vars false W args.toList ds [] before) (hno : s.vars = [])
    (hr : ∀ (b : Nat) (sp : Nat → Bool) (hd : Bool), DataW.TrodAll enc Tryz.prog W' b sp hd f.resultTypes.toList (v.resultList f.resultTypes.size) (s.fn H ds).results [])
    (ha0 : DataW.TrodAll enc Tryz.prog W' 0 (fun b => decide (b < W.heap.size)) true f.params.toList args.toList (s.fn H ds).args before)
    (ha1 : DataW.TrodAll enc Tryz.prog W' 0 (fun _ => true) true f.params.toList args.toList (s.fn H ds).args before) (hv : (s.fn H ds).vars = [])
    (hb : Below W.heap.size W W')
    (hok : ∀ (j : Nat) (t : TypeId) (r : Value), f.resultTypes[j]? = some t → (v.resultList f.resultTypes.size)[j]? = some r → Value.okWide Tryz.prog W' .any 0 t r) :
    s.post enc Tryz.prog f false fresh handsOn again W args v W' := by
  have hv' : ∀ sp, DataW.TrodVars enc Tryz.prog W' sp s.vars (s.fn H (ds ++ [])).vars [] := fun sp => by rw [List.append_nil, hno, hv]; rfl
  rw [← List.append_nil ds] at hr ha0 ha1
  refine ⟨ds, [], before, [], before, [], hW, hr _ _ _, ha0, hv' _, World.keptBut_mono (fun p hp => ⟨hp, .inr (by simpa using hp)⟩) (hb.frame (· ∈ before)), fun _ => ?_⟩
  have hlt : ∀ p ∈ before, p.block < W.heap.size := fun p hp => hW.lt p hp
  obtain ⟨_, _, _, _, _, hz, hn⟩ := hW
  refine ⟨hok, _, _, ([] ++ before) ++ [], ⟨[] ++ before, [], trodAll_append ha1 (hr 0 (fun _ => true) true), hv' _, rfl, fun b off hp => ?_, fun h => by cases h⟩, fun p hp _ => by simpa using hp⟩
  · have hin : MemPlace.cell b off ∈ before := by simpa using hp
    rw [hb.frozen (p := ⟨b, off, none⟩) (hlt _ hin)]
    exact hz b off hin
set_option maxRecDepth 100000 in
theorem lifted (os : Os) (started : os.Started) (H : Type) (enc : TypeId × Value → H) :
    ReturnsInHanded {} Tryz.checked os 4 .any (fun w args => (Rows.parserGapsSpec.pre enc Tryz.prog Tryz.f4 Rows.parserGapsRow.domain false w args ∧ laidMetH Tryz.prog laidAll w) ∧ sizedMet enc Tryz.prog Tryz.f4 (OpenSpec.ofChange Rows.parserGapsSpec) false w args)
      (Rows.parserGapsSpec.post enc Tryz.prog Tryz.f4 false true false false) := by
  refine returnsInHanded_of_change_and (C := Tryz.checked) (X := fun w _ => laidMetH Tryz.prog laidAll w) (fun _ _ _ hh h => h.of_heap hh) own started (by kernel_rfl) Tryz.func4
    (ChangeSpec.witness_shaped (enc := enc) (C := Tryz.checked) (os := os) (X := fun w _ => laidMetH Tryz.prog laidAll w) false (World.laidAll Tryz.prog os laidAll) #[.string ⟨#[]⟩, .slice none 0 0] 8 (World.laidAll_os _ _ _)
      (start_shaped os _) (by kernel_rfl) (by kernel_rfl) (by kernel_rfl) (start_met os _)) ?_
  intro W base args ds gs before hval0 hW hc hsz0 hL _
  have hsz : (DataW.weightsEach Tryz.prog (Tryz.f4.params.toList ++ Rows.parserGapsSpec.plain.varTypes Tryz.prog) (ds ++ gs)).all (· ≤ reachBytes) = true := hsz0
  have hval : ∀ (j : Nat) t v, Tryz.f4.params[j]? = some t → args[j]? = some v → Value.okWide Tryz.prog W .any base t v := hval0
  have hW' := hW
  obtain ⟨p, q, hA0, hV, rfl, _, _⟩ := hW
  have hA : DataW.TrodAll enc Tryz.prog W 0 (fun _ => true) true Tryz.f4.params.toList args.toList ds p := hA0
  rw [Tryz.params4] at hA hval hsz
  obtain ⟨v0, v1, d0, d1, p0, p1, rfl, rfl, rfl, h0, h1⟩ := trodAll_two hA
  obtain ⟨rfl, rfl⟩ := trodVars_none hV
  obtain ⟨s, rfl, rfl, rfl, hs⟩ := open_string Tryz.underlying9 (hval 0 9 v0 rfl rfl) h0
  obtain ⟨a0, len, cap, rfl⟩ := okWide_slice Tryz.underlying35 (hval 1 35 v1 rfl rfl)
  obtain ⟨fuel, hf⟩ := h1
  simp only [List.append_nil] at hW'
  have hlim : s.size ≤ 140737488355328 := by
    have h1 := sized_string hsz (j := 0) (t := 9) rfl rfl
    have h2 := reachBytes_lt
    have e1 : s.size = s.data.size := rfl
    have e2 : s.data.toList.length = s.data.size := Array.length_toList
    have e3 : (2 : Nat) ^ 47 = 140737488355328 := by decide
    omega
  have hLL := libs_of_laid hL
  have h00 : 0 < W.heap.size := by obtain ⟨_, _, _, h⟩ := hLL.2; omega
  rcases open_ints Tryz.underlying35 Tryz.underlying5 (by kernel_rfl) hf with ⟨hcs, hx⟩ | ⟨a, len', cap', zs, hcs, _, hl, hm, hz, hx, hcell, hwz⟩
  · simp [Value.cells] at hcs
    obtain ⟨rfl, rfl, rfl⟩ := hcs
    simp only [Prod.mk.injEq] at hx
    obtain ⟨rfl, rfl⟩ := hx
    refine (pgaps_any s [] (.slice none 0 0) W hlim (.inl ⟨rfl, rfl⟩) hLL h00).mono fun e W' ⟨he, hb⟩ => ?_
    subst he
    exact ⟨_, rfl, post_kept2 hW' rfl (fun _ _ _ => trodAll_mk1 (shut_bool Tryz.underlying4 _)) (trodAll_mk2 (shut_string Tryz.underlying9 hs) (shut_slice_nil Tryz.underlying35)) (trodAll_mk2 (shut_string Tryz.underlying9 hs) (shut_slice_nil Tryz.underlying35)) rfl hb.toBelow (ok_one (by kernel_rfl) rfl (okWide_bool_mk Tryz.underlying4 _))⟩
  · simp [Value.cells] at hcs
    obtain ⟨rfl, rfl, rfl⟩ := hcs
    simp only [Prod.mk.injEq] at hx
    obtain ⟨rfl, rfl⟩ := hx
    simp only [if_true] at hz
    have hblk : zs ≠ [] → a.block < W.heap.size := by
      intro hne
      have h0 := hcell 0 (List.length_pos_iff.2 hne)
      rcases Nat.lt_or_ge (a.add 0).block W.heap.size with h | h
      · rwa [add_block] at h
      · exfalso
        simp [World.cell?, Array.getElem?_eq_none h] at h0
    have hge : ∀ n ∈ zs, 0 ≤ n ∧ n < 256 := by
      intro n hn
      have h1 := hwz n hn
      have e1 : IntKind.u8.min = 0 := rfl
      have e2 : IntKind.u8.max = 255 := rfl
      simp [Lit.wf, e1, e2] at h1
      omega
    have hgv : GapV W (.slice (some a) len cap) ((zs.take len).map Int.toNat) := by
      have hlz : ((zs.take len).map Int.toNat).length = len := by rw [List.length_map, List.length_take]; omega
      refine .inr ⟨a, cap, by rw [hlz], by omega, hm, fun hne => hblk (by rintro rfl; simp at hne), fun i n hi => ?_, fun n hn => ?_⟩
      · have hil : i < len := by
          rcases Nat.lt_or_ge i len with h | h
          · exact h
          · rw [List.getElem?_eq_none (by omega)] at hi; cases hi
        rw [List.getElem?_map, List.getElem?_take, if_pos hil, List.getElem?_eq_getElem (by omega)] at hi
        simp only [Option.map_some, Option.some.injEq] at hi
        rw [hcell i (by omega), List.getD_eq_getElem?_getD, List.getElem?_eq_getElem (by omega)]
        have := (hge zs[i] (List.getElem_mem _)).1
        simp only [Option.getD_some]
        rw [← hi]
        congr 2
        omega
      · obtain ⟨m, hm', rfl⟩ := List.mem_map.1 hn
        have := hge m (List.mem_of_mem_take hm')
        omega
    refine (pgaps_any s _ _ W hlim hgv hLL h00).mono fun e W' ⟨he, hb⟩ => ?_
    subst he
    have hcell' : ∀ i, i < zs.length → W'.cell? (a.add i) = some (.int .u8 (zs.getD i 0)) := fun i hi =>
      (World.cell?_of_block (w := W) (by rw [add_block]; exact hb.block _ (hblk (by rintro rfl; simp at hi)) (by simp))).trans (hcell i hi)
    have hz0 : zs.length = (if decide (a.block < W.heap.size) = true then cap else len) := by
      by_cases hne : zs = []
      · subst hne
        simp at hz
        split <;> simp <;> omega
      · rw [if_pos (by simpa using hblk hne)]; exact hz
    exact ⟨_, rfl, post_kept2 hW' rfl (fun _ _ _ => trodAll_mk1 (shut_bool Tryz.underlying4 _))
      (trodAll_mk2 (shut_string Tryz.underlying9 hs) ⟨_, shut_ints 0 Tryz.underlying35 Tryz.underlying5 (by kernel_rfl) (Nat.zero_le _) hl hm hz0 hcell' hwz⟩)
      (trodAll_mk2 (shut_string Tryz.underlying9 hs) ⟨_, shut_ints 0 Tryz.underlying35 Tryz.underlying5 (by kernel_rfl) (Nat.zero_le _) hl hm (by simpa using hz) hcell' hwz⟩) rfl hb.toBelow (ok_one (by kernel_rfl) rfl (okWide_bool_mk Tryz.underlying4 _))⟩

set_option maxRecDepth 100000 in
set_option maxHeartbeats 4000000 in
theorem said : Rows.ParserGapsSaid :=
  OpenClaim.holds_of_wide 4 Tryz.f4 rfl rfl rfl rfl rfl rfl rfl ⟨rfl, rfl, rfl, rfl, rfl⟩ rfl rfl rfl rfl rfl (by as_aux_lemma => kernel_rfl) Tryz.func4 (by simp only [joinedFacts, Bool.and_eq_true]; (repeat' apply And.intro); all_goals (as_aux_lemma => kernel_rfl))
    (of_decide_eq_true (by as_aux_lemma => kernel_rfl)) (by unfold Func.isWrapper; first | (rw [if_pos (by as_aux_lemma => decide +kernel)]; as_aux_lemma => kernel_rfl) | (rw [if_neg (by as_aux_lemma => decide +kernel)]; exact ⟨rfl, rfl⟩))
    (fun os started H enc _ => lifted os started H enc)

theorem plain (f : FuncId) (fn : Func) (hf : Tryz.pinned.checked.prog.funcNamed "leasehold/leaseholdlaw02.ParserGaps" = some f) (hfn : Tryz.pinned.checked.prog.funcs[f]? = some fn) :
    true = Tryz.pinned.checked.prog.looks [] ∧ ∀ (j : Nat) t, fn.params[j]? = some t → Tryz.pinned.checked.prog.wantsStandIn t = false := by
  obtain rfl : f = 4 := Option.some.inj ((show Tryz.prog.funcNamed "leasehold/leaseholdlaw02.ParserGaps" = some 4 by as_aux_lemma => kernel_rfl).symm.trans hf) |>.symm
  obtain rfl : fn = Tryz.f4 := (Option.some.inj (Tryz.func4.symm.trans hfn)).symm
  refine ⟨by as_aux_lemma => kernel_rfl, fun j t ht => ?_⟩
  rw [Tryz.params4] at ht
  have hm : t = 9 ∨ t = 35 := by simpa using Array.mem_of_getElem? ht
  rcases hm with rfl | rfl
  · exact (show Tryz.prog.wantsStandIn 9 = false by as_aux_lemma => kernel_rfl)
  · exact (show Tryz.prog.wantsStandIn 35 = false by as_aux_lemma => kernel_rfl)

set_option maxRecDepth 100000 in
set_option maxHeartbeats 4000000 in
theorem card : Rows.ParserGapsCardSaid :=
  Claim7.holds_tied_plain_at .later [] _ _ _ _ said (fun _ h => by cases h) (by as_aux_lemma => kernel_rfl) (fun _ h => by cases h) parserGaps_row_tie rfl ⟨rfl, rfl⟩ (by as_aux_lemma => kernel_rfl) rfl plain (by as_aux_lemma => kernel_rfl)
#print axioms card
end Go.Proofs.YtpdhiminpdmpiaaGreatDoor.fnParserGaps
