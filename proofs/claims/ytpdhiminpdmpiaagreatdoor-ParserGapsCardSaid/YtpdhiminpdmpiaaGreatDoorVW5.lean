/-
 Walk of token.
-/
import Derived.Test.YtpdhiminpdmpiaaGreatDoorVW4
set_option linter.unusedVariables false
set_option linter.unusedSimpArgs false
set_option linter.unusedSectionVars false
set_option linter.unusedVariables false
set_option linter.unusedSimpArgs false
set_option linter.unusedSectionVars false
namespace Go.Proofs.YtpdhiminpdmpiaaGreatDoor
open Go.RowKit Go.Lib
/-- what the lexer has laid: the table of the classes and the map of the symbols -/
def Tabs (w : World) (b : Nat) : Prop := b < w.heap.size ∧ TabAt w b ∧ SymAt w b ∧ ErrAt w
theorem Tabs.keep {w w' : World} {b B : Nat} (h : Tabs w b) (hb : Below B w w') (hB : w.heap.size ≤ B) : Tabs w' b := by
 obtain ⟨h1, h2, ⟨m, n, D, c, hm, ⟨es, cl, ho, hr⟩, hat⟩, h4⟩ := h
 have hs := hb.size
 refine ⟨by omega, fun i hi => (hb.cell (p := ⟨b, i, none⟩) (by simp; omega)).trans (h2 i hi), ⟨m, n, D, (hb.cell (p := ⟨b, 256, none⟩) (by simp; omega)).trans c, by omega, ⟨es, cl, (hb.block m (by omega)).trans ho, hr⟩, hat⟩, h4.below hb hB⟩
/-- the same, with the block of the map named -/
def TabsM (w : World) (b m : Nat) : Prop :=
 b < w.heap.size ∧ m < w.heap.size ∧ TabAt w b ∧ (∃ (n : Nat) (D : DataW Unit), w.cell? ⟨b, 256, none⟩ = some (.map (some m)) ∧ w.ownsMap Tryz.prog 9 (plainElem Tryz.prog 4) m n D ∧
  ∀ l : List UInt8, D.atKey (.string l) (.lit (.bool false)) = .lit (.bool (Lx.isSym l))) ∧ ErrAt w
theorem TabsM.tabs {w : World} {b m : Nat} (h : TabsM w b m) : Tabs w b := by
 obtain ⟨h1, h2, h3, ⟨n, D, c, o, hat⟩, h5⟩ := h
 exact ⟨h1, h3, ⟨m, n, D, c, h2, o, hat⟩, h5⟩
theorem TabsM.kept {w w' : World} {b m : Nat} (h : TabsM w b m) (hs : w.heap.size ≤ w'.heap.size) (hk : ∀ k o, k = b ∨ k = m ∨ k = 7 → w.heap[k]? = some o → w'.heap[k]? = some o) : TabsM w' b m := by
 obtain ⟨h1, h2, h3, ⟨n, D, c, ⟨es, cl, ho, hr⟩, hat⟩, ⟨ev, e1, e2, e3⟩⟩ := h
 have hh : ∀ k, k = b ∨ k = m ∨ k = 7 → k < w.heap.size → w'.heap[k]? = w.heap[k]? := fun k hk' hlt => by
  have := hk k _ hk' (Array.getElem?_eq_getElem hlt)
  rw [this, Array.getElem?_eq_getElem hlt]
 have hb := hh b (by simp) h1
 exact ⟨by omega, by omega, fun i hi => (World.cell?_of_block (w := w) hb).trans (h3 i hi), ⟨n, D, (World.cell?_of_block (w := w) hb).trans c, ⟨es, cl, hk m _ (by simp) ho, hr⟩, hat⟩,
  ⟨ev, (World.cell?_of_block (w := w) (hh 7 (by simp) e3)).trans e1, e2, by omega⟩⟩
theorem below_drewN (B : Nat) (w : World) (n : Nat) : Below B w (w.drewN n) := ⟨rfl, rfl, rfl, Nat.le_refl _, fun _ _ => rfl⟩
def tokE (s : ByteArray) (k : Nat) (t : Nat × Nat × Nat) : Ending :=
 if t.1 = 0 then .returned (.tuple #[.agg #[.int .i64 0, .string ⟨#[]⟩, .int .i64 0, .int .i64 k], .int .i64 t.2.2])
 else .returned (.tuple #[.agg #[.int .i64 t.1, .string (s.extract k (k + t.2.1)), .int .i64 t.2.2, .int .i64 k], .int .i64 0])
theorem letter_word (c : UInt8) (h : Lx.letterB c = true) : Lx.wordB c = true := by simp [Lx.letterB] at h; simp [Lx.wordB, h]
theorem token_letter (s : ByteArray) (k : Nat) (h : k < s.size) (hc : Lx.letterB s[k] = true) : Lx.tokAt (s.data.toList.drop k) = if 24 < runEndF Lx.wordB s k - k then (0, 0, 2) else (1, runEndF Lx.wordB s k - k, 0) := by
 unfold runEndF
 rw [drop_cons s k h]
 simp only [Lx.tokAt, hc, if_true, Nat.add_sub_cancel_left]
theorem token_digit (s : ByteArray) (k : Nat) (h : k < s.size) (hl : Lx.letterB s[k] = false) (hc : Lx.digitB s[k] = true) :
  Lx.tokAt (s.data.toList.drop k) = if 10 < runEndF Lx.digitB s k - k ∨ 1000000000 < Lx.numVal 0 ((s.data.toList.drop k).take (runEndF Lx.digitB s k - k)) then (0, 0, 2)
   else (2, runEndF Lx.digitB s k - k, Lx.numVal 0 ((s.data.toList.drop k).take (runEndF Lx.digitB s k - k))) := by
 unfold runEndF
 rw [drop_cons s k h]
 simp only [Lx.tokAt, hc, hl, if_true, Nat.add_sub_cancel_left, Bool.false_eq_true, if_false]
theorem token_other (s : ByteArray) (k : Nat) (h : k < s.size) (hl : Lx.letterB s[k] = false) (hc : Lx.digitB s[k] = false) :
  tokE s k (Lx.tokAt (s.data.toList.drop k)) = symE s k (Lx.symLen (s.data.toList.drop k)) := by
 rw [drop_cons s k h]
 simp only [Lx.tokAt, hc, hl, Bool.false_eq_true, if_false]
 unfold tokE symE
 by_cases h0 : Lx.symLen (s[k] :: s.data.toList.drop (k + 1)) = 0
 ·simp [h0]
 ·simp [h0]
theorem run_all (p : UInt8 → Bool) : ∀ (l : List UInt8), ∀ c ∈ l.take (Lx.runLen p l), p c = true
 | [], c, h => by simp at h
 | x :: r, c, h => by
  by_cases hx : p x = true
  ·simp only [Lx.runLen, hx, if_true, List.take_succ_cons, List.mem_cons] at h
   rcases h with rfl | h
   ·exact hx
   ·exact run_all p r c h
  ·simp [Lx.runLen, hx] at h
theorem size_ext (s : ByteArray) (k r : Nat) (h : r ≤ s.size) : (s.extract k r).size = r - k := by
 simp [ByteArray.size_extract]; omega
theorem list_ext (s : ByteArray) (k r : Nat) (h : k ≤ r) : (s.extract k r).data.toList = (s.data.toList.drop k).take (r - k) := by
 simp [ByteArray.data_extract]
theorem tabs_tk {w : World} {b : Nat} (h : Tabs w b) (o : Obj) (n : Nat) : Tabs ((w.alloc o).drewN n) b :=
 h.keep (((Below.refl _ w).alloc (Nat.le_refl _) o).trans (below_drewN _ _ _)) (Nat.le_refl _)
set_option maxRecDepth 100000 in
theorem token_any (s : ByteArray) (b k : Nat) (w : World) (hs : s.size ≤ 140737488355328) (hk : k < s.size) (hT : Tabs w b) :
  Calls Tryz.prog 132 #[.pointer (some ⟨b, 0, none⟩), .string s, .int .i64 k] w fun e w' => e = tokE s k (Lx.tokAt (s.data.toList.drop k)) ∧ Below w.heap.size w w' := by
 have hbw := hT.1
 have HTT := Lib.hid hT
 have hc := hT.2.1 s[k].toNat (UInt8.toNat_lt _)
 have hb := u8lt s[k]
 clear hT
 by_cases hl : Lx.letterB s[k] = true
 ·have ht := token_letter s k hk hl
  have h4 : Lx.clsN s[k].toNat = 4 := by simpa [Lx.letterB] using hl
  rw [h4] at hc
  have H4 := Lib.hid ht
  have hle := runEndF_le Lx.wordB s k (by omega)
  have hge := runEndF_ge Lx.wordB s k
  have HSZ := Lib.hid (size_ext s k _ hle)
  clear ht h4 hl
  by_cases h24 : 24 < runEndF Lx.wordB s k - k
  ·go_enter Tryz.func132, Tryz.ntmps132
   go_wp2
   go_quiet (fail)
   clear hc hb
   go_wp2_with fail
   refine (runEnd_any Lx.wordB 28 bits_word s b k _ (by unfold maxLen; omega) (by omega) (tabs_tk HTT.out _ _).2.1).mono ?_
   rintro e w' ⟨rfl, m, rfl⟩
   go_wp2_with fail
   refine (name_err _ k _ (by rw [HSZ.out]; exact h24)).mono ?_
   rintro e w' ⟨rfl, hb⟩
   obtain ⟨hc, hf⟩ := bcell hb
   go_wp2_with fail
   refine bodyPost_ret (v := .tuple #[.agg #[.int .i64 0, .string ⟨#[]⟩, .int .i64 0, .int .i64 k], .int .i64 2]) (by simp [results, Tryz.results132, go_sem, hc]) rfl ⟨?_, ?_⟩
   ·rw [H4.out, if_pos h24]; rfl
   ·exact below4 ((((Below.refl _ _).alloc (Nat.le_refl _) _).trans (below_drewN _ _ _)).trans (hb.mono (by simp))) (Nat.le_refl _) _ _ _ _
  ·go_enter Tryz.func132, Tryz.ntmps132
   go_wp2
   go_quiet (fail)
   clear hc hb
   go_wp2_with fail
   refine (runEnd_any Lx.wordB 28 bits_word s b k _ (by unfold maxLen; omega) (by omega) (tabs_tk HTT.out _ _).2.1).mono ?_
   rintro e w' ⟨rfl, m, rfl⟩
   go_wp2_with fail
   refine (name_ok _ k _ (by rw [HSZ.out]; omega)).mono ?_
   rintro e w' ⟨rfl, hb⟩
   obtain ⟨hc, hf⟩ := bcell hb
   go_wp2_with fail
   refine bodyPost_ret (v := .tuple #[.agg #[.int .i64 1, .string (s.extract k (runEndF Lx.wordB s k)), .int .i64 0, .int .i64 k], .int .i64 0]) (by simp [results, Tryz.results132, go_sem, hc]) rfl ⟨?_, ?_⟩
   ·rw [H4.out, if_neg h24]
    unfold tokE
    rw [if_neg (by simp), show k + (runEndF Lx.wordB s k - k) = runEndF Lx.wordB s k from by omega]; rfl
   ·exact below4 ((((Below.refl _ _).alloc (Nat.le_refl _) _).trans (below_drewN _ _ _)).trans (hb.mono (by simp))) (Nat.le_refl _) _ _ _ _
 ·have hl' : Lx.letterB s[k] = false := by simpa using hl
  have h4 : ((Lx.clsN s[k].toNat : Int) == 4) = false := by
   simp [Lx.letterB] at hl'; simp; omega
  by_cases hd : Lx.digitB s[k] = true
  ·have ht := token_digit s k hk hl' hd
   have h8 : Lx.clsN s[k].toNat = 8 := by simpa [Lx.digitB] using hd
   rw [h8] at hc
   have H4 := Lib.hid ht
   have hle := runEndF_le Lx.digitB s k (by omega)
   have hge := runEndF_yes Lx.digitB s k hk hd
   have hge2 := runEndF_ge Lx.digitB s (k + 1)
   rw [← hge] at hge2
   have HSZ := Lib.hid (size_ext s k _ hle)
   have HLI := Lib.hid (list_ext s k (runEndF Lx.digitB s k) (by omega))
   have HAL := Lib.hid (run_all Lx.digitB (s.data.toList.drop k))
   clear ht h8 hl hl' h4 hd hge
   have HNE : Hid ((s.extract k (runEndF Lx.digitB s k)).data.toList ≠ []) := by
    apply Lib.hid
    intro h0
    have h1 : (s.extract k (runEndF Lx.digitB s k)).data.toList.length = 0 := by rw [h0]; rfl
    have h2 := HSZ.out
    rw [show (s.extract k (runEndF Lx.digitB s k)).size = (s.extract k (runEndF Lx.digitB s k)).data.toList.length from by simp [-ByteArray.size_extract, -ByteArray.data_extract]] at h2
    omega
   have HDG : Hid (∀ c ∈ (s.extract k (runEndF Lx.digitB s k)).data.toList, Lx.digitB c = true) := by
    apply Lib.hid
    intro c hcm
    rw [HLI.out] at hcm
    refine HAL.out c ?_
    unfold runEndF at hcm
    rwa [Nat.add_sub_cancel_left] at hcm
   by_cases hx : 10 < runEndF Lx.digitB s k - k ∨ 1000000000 < Lx.numVal 0 ((s.data.toList.drop k).take (runEndF Lx.digitB s k - k))
   ·have HX := Lib.hid hx
    clear hx
    go_enter Tryz.func132, Tryz.ntmps132
    go_wp2
    go_quiet (fail)
    clear hc hb
    go_wp2_with fail
    refine (runEnd_any Lx.digitB 8 bits_digit s b k _ (by unfold maxLen; omega) (by omega) (tabs_tk HTT.out _ _).2.1).mono ?_
    rintro e w' ⟨rfl, m, rfl⟩
    go_wp2_with fail
    refine (number_err _ k _ (by rw [HSZ.out]; omega) HNE.out HDG.out (by rw [HSZ.out, HLI.out]; exact HX.out) (tabs_tk HTT.out _ _).2.2.2).mono ?_
    rintro e w' ⟨rfl, hb⟩
    obtain ⟨hc, hf⟩ := bcell hb
    go_wp2_with fail
    refine bodyPost_ret (v := .tuple #[.agg #[.int .i64 0, .string ⟨#[]⟩, .int .i64 0, .int .i64 k], .int .i64 2]) (by simp [results, Tryz.results132, go_sem, hc]) rfl ⟨?_, ?_⟩
    ·rw [H4.out, if_pos HX.out]; rfl
    ·exact below4 ((((Below.refl _ _).alloc (Nat.le_refl _) _).trans (below_drewN _ _ _)).trans (hb.mono (by simp))) (Nat.le_refl _) _ _ _ _
   ·have HX := Lib.hid hx
    clear hx
    go_enter Tryz.func132, Tryz.ntmps132
    go_wp2
    go_quiet (fail)
    clear hc hb
    go_wp2_with fail
    refine (runEnd_any Lx.digitB 8 bits_digit s b k _ (by unfold maxLen; omega) (by omega) (tabs_tk HTT.out _ _).2.1).mono ?_
    rintro e w' ⟨rfl, m, rfl⟩
    go_wp2_with fail
    refine (number_ok _ k _ HNE.out HDG.out (by rw [HSZ.out]; have := HX.out; omega) (by rw [HLI.out]; have := HX.out; omega)).mono ?_
    rintro e w' ⟨rfl, hb⟩
    obtain ⟨hc, hf⟩ := bcell hb
    go_wp2_with fail
    refine bodyPost_ret (v := .tuple #[.agg #[.int .i64 2, .string (s.extract k (runEndF Lx.digitB s k)), .int .i64 (Lx.numVal 0 (s.extract k (runEndF Lx.digitB s k)).data.toList), .int .i64 k], .int .i64 0]) (by simp [results, Tryz.results132, go_sem, hc]) rfl ⟨?_, ?_⟩
    ·rw [H4.out, if_neg HX.out, HLI.out]
     unfold tokE
     rw [if_neg (by simp), show k + (runEndF Lx.digitB s k - k) = runEndF Lx.digitB s k from by omega]
     rfl
    ·exact below4 ((((Below.refl _ _).alloc (Nat.le_refl _) _).trans (below_drewN _ _ _)).trans (hb.mono (by simp))) (Nat.le_refl _) _ _ _ _
  ·have hd' : Lx.digitB s[k] = false := by simpa using hd
   have h8 : ((Lx.clsN s[k].toNat : Int) == 8) = false := by
    simp [Lx.digitB] at hd'; simp; omega
   have H4 := Lib.hid (token_other s k hk hl' hd')
   clear hl hl' hd hd'
   go_enter Tryz.func132, Tryz.ntmps132
   go_wp2
   go_quiet (fail)
   clear hc hb
   go_wp2_with fail
   refine (symbol_any s b k _ (by unfold maxLen; omega) hk (by simp; omega) (tabs_tk HTT.out _ _).2.2.1).mono ?_
   rintro e w' ⟨rfl, hb⟩
   obtain ⟨hc, hf⟩ := bcell hb
   unfold symE
   by_cases h0 : Lx.symLen (s.data.toList.drop k) = 0
   ·rw [if_pos h0]
    go_wp2_with fail
    refine bodyPost_ret (v := .tuple #[.agg #[.int .i64 0, .string ⟨#[]⟩, .int .i64 0, .int .i64 k], .int .i64 3]) (by simp [results, Tryz.results132, go_sem, hc]) rfl ⟨by rw [H4.out]; unfold symE; rw [if_pos h0], ?_⟩
    exact below4 ((((Below.refl _ _).alloc (Nat.le_refl _) _).trans (below_drewN _ _ _)).trans (hb.mono (by simp))) (Nat.le_refl _) _ _ _ _
   ·rw [if_neg h0]
    go_wp2_with fail
    refine bodyPost_ret (v := .tuple #[.agg #[.int .i64 3, .string (s.extract k (k + Lx.symLen (s.data.toList.drop k))), .int .i64 0, .int .i64 k], .int .i64 0]) (by simp [results, Tryz.results132, go_sem, hc]) rfl ⟨by rw [H4.out]; unfold symE; rw [if_neg h0], ?_⟩
    exact below4 ((((Below.refl _ _).alloc (Nat.le_refl _) _).trans (below_drewN _ _ _)).trans (hb.mono (by simp))) (Nat.le_refl _) _ _ _ _
end Go.Proofs.YtpdhiminpdmpiaaGreatDoor
