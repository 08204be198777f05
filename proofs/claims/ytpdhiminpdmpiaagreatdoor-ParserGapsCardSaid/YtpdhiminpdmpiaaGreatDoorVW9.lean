/-
 The iterator's contract.
-/
import Derived.Test.YtpdhiminpdmpiaaGreatDoorVW8
set_option linter.unusedVariables false
set_option linter.unusedSimpArgs false
set_option linter.unusedSectionVars false
set_option linter.unusedVariables false
set_option linter.unusedSimpArgs false
set_option linter.unusedSectionVars false
namespace Go.Proofs.YtpdhiminpdmpiaaGreatDoor
open Go.RowKit Go.Shelf
attribute [local go_sem] Oper.semAt_some
set_option maxRecDepth 100000 in
set_option maxHeartbeats 1000000 in
theorem iter_stops (K : Nat → Prop) (s : ByteArray) (b m Bt : Nat) (hs : s.size ≤ 140737488355328) (w : World) (hBt : Bt + 1 < w.heap.size) (hK : K Bt ∧ K (Bt + 1) ∧ K b ∧ K m ∧ K 7) (hc1 : w.cell? ⟨Bt, 0, none⟩ = some (.pointer (some ⟨b, 0, none⟩))) (hc2 : w.cell? ⟨Bt + 1, 0, none⟩ = some (.string s)) (hT : TabsM w b m) (n : Nat) (hn : 1 ≤ n) :
  SeqStopsK Fence.wide n Tryz.prog 130 #[.pointer (some ⟨Bt, 0, none⟩), .pointer (some ⟨Bt + 1, 0, none⟩)] encY (KP K) (fun ys => ys = Lx.allYields s.data.toList) (fun pre => pre <+: Lx.allYields s.data.toList) (Lx.allYields s.data.toList).length w := fun l J Jx W hW hJ hJx hY h0 => by
 have HY := Lib.hid hY
 clear hY
 have hkp : KP K w W := KP.of_below hW
 have tabs : ∀ X, KP K w X → Tabs X b := fun X h => (hT.kept h.1 (fun k o hk ho => h.2 k o ho (by rcases hk with rfl | rfl | rfl; exact .inl hK.2.2.1; exact .inl hK.2.2.2.1; exact .inl hK.2.2.2.2))).tabs
 have TABS := Lib.hid tabs
 clear tabs
 have g1 := (hkp.cell hK.1 (by omega) 0).trans hc1
 have g2 := (hkp.cell hK.2.1 (by omega) 0).trans hc2
 refine callsIn_of_wp Tryz.func130 rfl trivial ?_ rfl
 simp only [Tryz.ntmps130, List.size_toArray, List.length_cons, List.length_nil, Nat.reduceAdd, Nat.reduceSub, Array.replicate_succ, Array.replicate_zero, List.push_toArray, List.append_toArray, List.nil_append, List.cons_append]
 gi_wp2
 refine ⟨trivial, (callsIn_wide.2 (gapEnd_any s b 0 _ (by unfold maxLen; omega) (by omega) (TABS.out W hkp).2.1)).mono ?_⟩
 rintro e w' ⟨rfl, q, rfl⟩
 clear g1 g2
 gi_wp2
 gi_loopw [4] (fun v wr => ∃ (k f : Nat) (pre : List Lx.Yd), v = .int .i64 k ∧ k ≤ s.size ∧ s.size - k < f ∧ pre ++ Lx.yields s.data.toList f k = Lx.allYields s.data.toList ∧ J pre wr ∧ KP K w wr)
  (fun v wr => s.size - (RowKit.intOf v).toNat)
 case atStart =>
  refine ⟨gapEndF s 0, s.size + 1, [], rfl, gapEndF_le s 0 (by omega), by omega, ?_, ?_, ?_⟩
  ·simp [Lx.allYields, posEnd_eq]
  ·exact hJ [] W _ none h0 (grown_of_below (below_drewN _ _ _)) (fun r e => by cases e)
  ·exact hkp.trans (KP.of_below (below_drewN _ _ _))
 case round =>
  obtain ⟨k, f, pre, rfl, hk, hf, hp, hJp, hB⟩ := hrel
  have HT := Lib.hid (TABS.out wr hB)
  have g1 := (hB.cell hK.1 (by omega) 0).trans hc1
  have g2 := (hB.cell hK.2.1 (by omega) 0).trans hc2
  cases f with
  | zero => omega
  | succ f =>
  by_cases hlt : k < s.size
  ·obtain ⟨t, ht⟩ : ∃ t, t = Lx.tokAt (s.data.toList.drop k) := ⟨_, rfl⟩
   have htk := token_any s b k wr hs hlt HT.out
   have hte := tok_err (s.data.toList.drop k)
   have htp := tok_pos (s.data.toList.drop k)
   rw [← ht] at htk hte htp
   rw [Lx.yields, if_pos (by simpa using hlt), ← ht] at hp
   have HTK := Lib.hid htk
   have HTT := Lib.hid ht
   clear htk ht
   by_cases h0 : t.1 = 0
   ·rw [if_pos h0] at hp
    have HP := Lib.hid hp
    have hne : ((t.2.2 : Int) != 0) = true := by have := hte h0; simp; omega
    clear hp hte htp
    gi_wp2
    refine ⟨trivial, (callsIn_wide.2 HTK.out).mono ?_⟩
    rintro e w1 ⟨rfl, hb1⟩
    unfold tokE
    rw [if_pos h0]
    have hJ2 := hJ pre _ _ none (hJ pre wr w1 none hJp (grown_of_below hb1) (fun r e => by cases e)) (World.grownBy_alloc w1 (.cells #[Value.int .i64 0, Value.string ⟨#[]⟩, Value.int .i64 0, Value.int .i64 k] 45) none) (fun r e => by cases e)
    obtain ⟨fn, tmps, assign, body, hy, hR⟩ := HY.out pre ⟨⟨0, [], 0, k⟩, t.2.2⟩ _ hJ2 (by have := HP.out; rw [← this]; simp)
    have hy' : (Instr.yield l #[.agg #[.int .i64 0, .string ⟨#[]⟩, .int .i64 0, .int .i64 k], .int .i64 t.2.2]).run Tryz.prog (w1.alloc (.cells #[Value.int .i64 0, Value.string ⟨#[]⟩, Value.int .i64 0, Value.int .i64 k] 45)) = .ok (.round l fn tmps assign body) (w1.alloc (.cells #[Value.int .i64 0, Value.string ⟨#[]⟩, Value.int .i64 0, Value.int .i64 k] 45)) := hy
    clear hy
    gi_wp2
    refine hR.mono ?_
    rintro e W3 (⟨rfl, hJ3, hk3⟩ | ⟨rfl, hJx3⟩)
    ·gi_wp2
     refine bodyPost_ret (results_none rfl _ _ _) rfl ?_
     exact ⟨⟨_, rfl⟩, .inl ⟨_, HP.out, hJ3⟩⟩
    ·gi_wp2
     refine bodyPost_ret (results_none rfl _ _ _) rfl ?_
     exact ⟨⟨_, rfl⟩, .inr ⟨_, by rw [HP.out]; exact List.prefix_refl _, hJx3⟩⟩
   ·rw [if_neg h0] at hp
    have HP := Lib.hid hp
    obtain ⟨hp1, hp2⟩ := htp h0
    clear hp hte htp
    rw [List.length_drop] at hp2
    have hp3 : k + t.2.1 ≤ s.size := by simp at hp2; omega
    gi_wp2
    refine ⟨trivial, (callsIn_wide.2 HTK.out).mono ?_⟩
    rintro e w1 ⟨rfl, hb1⟩
    unfold tokE
    rw [if_neg h0, ext_eq]
    have hJ2 := hJ pre _ _ none (hJ pre wr w1 none hJp (grown_of_below hb1) (fun r e => by cases e)) (World.grownBy_alloc w1 (.cells #[Value.int .i64 t.1, Value.string ⟨((s.data.toList.drop k).take t.2.1).toArray⟩, Value.int .i64 t.2.2, Value.int .i64 k] 45) none) (fun r e => by cases e)
    obtain ⟨fn, tmps, assign, body, hy, hR⟩ := HY.out pre ⟨⟨t.1, (s.data.toList.drop k).take t.2.1, t.2.2, k⟩, 0⟩ _ hJ2 (by have := HP.out; rw [← this]; simp)
    have hy' : (Instr.yield l #[.agg #[.int .i64 t.1, .string ⟨((s.data.toList.drop k).take t.2.1).toArray⟩, .int .i64 t.2.2, .int .i64 k], .int .i64 0]).run Tryz.prog (w1.alloc (.cells #[Value.int .i64 t.1, Value.string ⟨((s.data.toList.drop k).take t.2.1).toArray⟩, Value.int .i64 t.2.2, Value.int .i64 k] 45)) = .ok (.round l fn tmps assign body) (w1.alloc (.cells #[Value.int .i64 t.1, Value.string ⟨((s.data.toList.drop k).take t.2.1).toArray⟩, Value.int .i64 t.2.2, Value.int .i64 k] 45)) := hy
    clear hy
    gi_wp2
    refine hR.mono ?_
    rintro e W3 (⟨rfl, hJ3, hk3⟩ | ⟨rfl, hJx3⟩)
    ·have hkw := (hB.trans (KP.of_below hb1)).trans ((KP.of_below ((Below.refl _ w1).alloc (Nat.le_refl _) _)).trans hk3)
     have g3 := hk3.tok _ rfl 1
     have g4 := (hkw.cell hK.1 (by omega) 0).trans hc1
     have g5 := (hkw.cell hK.2.1 (by omega) 0).trans hc2
     have HK := Lib.hid hkw
     clear hkw hk3
     gi_wp2
     clear g3 g4 g5
     rw [show ((k : Int) + ((min t.2.1 (s.size - k) : Nat) : Int)) = ((k + t.2.1 : Nat) : Int) from by omega]
     refine ⟨trivial, (callsIn_wide.2 (gapEnd_any s b (k + t.2.1) _ (by unfold maxLen; omega) hp3 (TABS.out W3 HK.out).2.1)).mono ?_⟩
     rintro e w' ⟨rfl, q2, rfl⟩
     gi_wp2
     have hg1 := gapEndF_le s (k + t.2.1) hp3
     have hg2 : k + t.2.1 ≤ gapEndF s (k + t.2.1) := by unfold gapEndF; omega
     go_roundw
     case rel =>
      refine ⟨gapEndF s (k + t.2.1), f, _, rfl, hg1, by omega, ?_, hJ _ W3 _ none hJ3 (grown_of_below (below_drewN _ _ _)) (fun r e => by cases e), HK.out.trans (KP.of_below (below_drewN _ _ _))⟩
      rw [← HP.out, List.append_assoc]; rfl
     case measure => simp [RowKit.intOf]; omega
    ·gi_wp2
     refine bodyPost_ret (results_none rfl _ _ _) rfl ?_
     exact ⟨⟨_, rfl⟩, .inr ⟨_, by rw [← HP.out]; exact ⟨Lx.yields s.data.toList f (Lx.posEnd s.data.toList (k + t.2.1)), by simp⟩, hJx3⟩⟩
  ·gi_wp2
   go_end0
   exact ⟨⟨_, rfl⟩, .inl ⟨pre, by rw [← hp, Lx.yields, if_neg (by simpa using hlt), List.append_nil], hJp⟩⟩
end Go.Proofs.YtpdhiminpdmpiaaGreatDoor
