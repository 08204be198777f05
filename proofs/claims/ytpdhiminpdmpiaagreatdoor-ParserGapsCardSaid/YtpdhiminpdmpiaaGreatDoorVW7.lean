/-
 Walk of newTables.
-/
import Derived.Test.YtpdhiminpdmpiaaGreatDoorVW6
set_option linter.unusedVariables false
set_option linter.unusedSimpArgs false
set_option linter.unusedSectionVars false
set_option linter.unusedVariables false
set_option linter.unusedSimpArgs false
set_option linter.unusedSectionVars false
namespace Go.Proofs.YtpdhiminpdmpiaaGreatDoor
open Go.RowKit Go.Lib
set_option maxRecDepth 100000 in
theorem newTables_any (w : World) (hS : Lib.TabIs Tryz.prog w "strings.asciiSpace" .u8 Lib.asciiSpaceTab) (hE : ErrAt w) : Calls Tryz.prog 72 #[] w fun e w' => e = .returned (.pointer (some ⟨w.heap.size + 1, 0, none⟩)) ∧ TabsM w' (w.heap.size + 1) w.heap.size ∧ Below w.heap.size w w' := by
 have hmm := @run_makeMap Tryz.prog
 have kc := conv_const
 have HS := Lib.hid hS
 have HE := Lib.hid hE
 clear hS hE
 go_enter Tryz.func72, Tryz.ntmps72
 go_wp2
 clear hmm kc
 go_loopw [3, 15] (fun _ v W => ∃ k : Nat, k ≤ 4 ∧ v = .int .i64 k ∧ TabF W (w.heap.size + 1) w.heap.size (fA k) ∧ (∀ j, j < 4 → W.cell? ⟨w.heap.size + 1 + 1, j, none⟩ = some (.int .u8 (bl j))) ∧ W.ownsMap (H := Unit) Tryz.prog 9 (plainElem Tryz.prog 4) w.heap.size 0 (.map []) ∧ Below w.heap.size w W ∧ w.heap.size + 1 + 1 < W.heap.size) (fun _ v _ => 4 - (RowKit.intOf v).toNat)
 case atStart =>
  refine ⟨0, by omega, rfl, ?_, ?_, ?_, ?_, ?_⟩
  ·have := (tab_start (w.alloc (Obj.map #[] 0)) w.heap.size).alloc (by simp) (.cells #[Value.int IntKind.u8 32, Value.int IntKind.u8 9, Value.int IntKind.u8 13, Value.int IntKind.u8 10] 5 (4, 5))
   simpa using this
  ·intro j hj
   have := bl_row ((w.alloc (Obj.map #[] 0)).alloc (Obj.cells (Tryz.zeroCells192.setIfInBounds 256 (Value.map (some w.heap.size))) 192)) j hj
   simpa using this
  ·exact ((World.ownsMap_made w Tryz.prog 9 (plainElem Tryz.prog 4)).alloc _).alloc _
  ·exact (((Below.refl _ w).alloc (Nat.le_refl _) _).alloc (by simp) _).alloc (by simp; omega) _
  ·simp
 case round =>
  obtain ⟨k, hk, rfl, hT, hR, hM, hB, hZ⟩ := hrel
  by_cases hlt : k < 4
  ·have hb := bl_lt k hlt
   have hb2 : (bl k : Int) < 256 := by omega
   have h1 := hR k hlt
   have h2 := hT.cls (bl k) hb
   have h3 := hT.free (bl k)
   have HT := Lib.hid hT
   have HR := Lib.hid hR
   have HM := Lib.hid hM
   clear hT hR hM
   go_wp2
   clear h1 h2 h3
   go_roundw
   case rel =>
    refine ⟨k + 1, by omega, by go_num, (HT.out.set (bl k) 1 hb).congr (fA_step k hlt), fun j hj => ?_, HM.out.setCell (by simp) _, hB.setCell (by simp) _, by simpa using hZ⟩
    rw [World.cell?_setCell_other _ _ _ _ (fun h => by have h' : w.heap.size + 1 = _ := congrArg Addr.block h; dsimp only at h'; omega)]; exact HR.out j hj
   case measure => simp [RowKit.intOf]; omega
  ·obtain rfl : k = 4 := by omega
   clear hR
   have HT := Lib.hid hT
   have HM := Lib.hid hM
   clear hT hM hlt
   go_wp2
   go_loopw [4] (fun v W => ∃ k : Nat, k ≤ 26 ∧ v = .int .u8 ((97 + k : Nat) : Int) ∧ TabF W (w.heap.size + 1) w.heap.size (f2 k) ∧ W.ownsMap (H := Unit) Tryz.prog 9 (plainElem Tryz.prog 4) w.heap.size 0 (.map []) ∧ Below w.heap.size w W ∧ w.heap.size + 1 + 1 < W.heap.size) (fun v _ => 123 - (RowKit.intOf v).toNat)
   case atStart => exact ⟨0, by omega, rfl, HT.out.congr (fun i => (rng_zero _ _ _ i).symm), HM.out, hB, hZ⟩
   case round =>
    clear HT HM hB hZ
    obtain ⟨k, hk, rfl, hT, hM, hB, hZ⟩ := hrel
    have HT := Lib.hid hT
    have HM := Lib.hid hM
    by_cases hlt : k < 26
    ·have h2 := hT.cls (97 + k) (by omega)
     have h3 := hT.free (97 + k)
     clear hT hM
     go_wp2
     clear h2 h3
     go_roundw
     case rel => exact ⟨k + 1, by omega, by go_num, (HT.out.set (97 + k) 4 (by omega)).congr (rng_step _ _ _ k), HM.out.setCell (by simp) _, hB.setCell (by simp) _, by simpa using hZ⟩
     case measure => simp [RowKit.intOf]; omega
    ·clear hT hM
     obtain rfl : k = 26 := by omega
     clear hlt
     go_wp2
     go_loopw [5] (fun v W => ∃ k : Nat, k ≤ 26 ∧ v = .int .u8 ((65 + k : Nat) : Int) ∧ TabF W (w.heap.size + 1) w.heap.size (f3 k) ∧ W.ownsMap (H := Unit) Tryz.prog 9 (plainElem Tryz.prog 4) w.heap.size 0 (.map []) ∧ Below w.heap.size w W ∧ w.heap.size + 1 + 1 < W.heap.size) (fun v _ => 91 - (RowKit.intOf v).toNat)
     case atStart => exact ⟨0, by omega, rfl, HT.out.congr (fun i => (rng_zero _ _ _ i).symm), HM.out, hB, hZ⟩
     case round =>
      clear HT HM hB hZ
      obtain ⟨k, hk, rfl, hT, hM, hB, hZ⟩ := hrel
      have HT := Lib.hid hT
      have HM := Lib.hid hM
      by_cases hlt : k < 26
      ·have h2 := hT.cls (65 + k) (by omega)
       have h3 := hT.free (65 + k)
       clear hT hM
       go_wp2
       clear h2 h3
       go_roundw
       case rel => exact ⟨k + 1, by omega, by go_num, (HT.out.set (65 + k) 4 (by omega)).congr (rng_step _ _ _ k), HM.out.setCell (by simp) _, hB.setCell (by simp) _, by simpa using hZ⟩
       case measure => simp [RowKit.intOf]; omega
      ·clear hT hM
       obtain rfl : k = 26 := by omega
       clear hlt
       go_wp2
       go_loopw [6] (fun v W => ∃ k : Nat, k ≤ 10 ∧ v = .int .u8 ((48 + k : Nat) : Int) ∧ TabF W (w.heap.size + 1) w.heap.size (f4 k) ∧ W.ownsMap (H := Unit) Tryz.prog 9 (plainElem Tryz.prog 4) w.heap.size 0 (.map []) ∧ Below w.heap.size w W ∧ w.heap.size + 1 + 1 < W.heap.size) (fun v _ => 58 - (RowKit.intOf v).toNat)
       case atStart => exact ⟨0, by omega, rfl, HT.out.congr (fun i => (rng_zero _ _ _ i).symm), HM.out, hB, hZ⟩
       case round =>
        clear HT HM hB hZ
        obtain ⟨k, hk, rfl, hT, hM, hB, hZ⟩ := hrel
        have HT := Lib.hid hT
        have HM := Lib.hid hM
        by_cases hlt : k < 10
        ·have h2 := hT.cls (48 + k) (by omega)
         have h3 := hT.free (48 + k)
         clear hT hM
         go_wp2
         clear h2 h3
         go_roundw
         case rel => exact ⟨k + 1, by omega, by go_num, (HT.out.set (48 + k) 8 (by omega)).congr (rng_step _ _ _ k), HM.out.setCell (by simp) _, hB.setCell (by simp) _, by simpa using hZ⟩
         case measure => simp [RowKit.intOf]; omega
        ·clear hT hM
         obtain rfl : k = 10 := by omega
         clear hlt
         have h1 := HT.out.cls 35 (by omega)
         have h2 := HT.out.cls 95 (by omega)
         have h3 := HT.out.free 35
         have h4 := HT.out.free 95
         go_wp2_with fail
         clear h1 h2 h3 h4
         obtain ⟨W4, rfl⟩ : ∃ W4 : World, W4 = wr := ⟨_, rfl⟩
         refine (fields_const _ ?hs).mono ?_
         case hs => exact Joins.tab_stays (g := 0) (by kernel_rfl) HS.out ((hB.setCell (by simp) _).setCell (by simp) _) (Nat.le_refl _)
         rintro e w' ⟨rfl, hc5, hz5, hb5⟩
         have HT5 := Lib.hid ((((HT.out.set 35 2 (by omega)).set 95 16 (by omega)).keep hb5 (by simp; omega)))
         have HM5 := Lib.hid (ownsMap_keep ((HM.out.setCell (a := ⟨w.heap.size + 1, 35, none⟩) (by simp) (Value.int .u8 (2 : Nat))).setCell (a := ⟨w.heap.size + 1, 95, none⟩) (by simp) (Value.int .u8 (16 : Nat))) hb5 (by simp; omega))
         have hB5 : Below w.heap.size w w' := ((hB.setCell (by simp) _).setCell (by simp) _).trans (hb5.mono (by simp; omega))
         have hz6 : W4.heap.size < w'.heap.size := by rw [hz5]; simp
         have HC5 : Hid (∀ j, j < 21 → w'.cell? ⟨W4.heap.size, j, none⟩ = some (.string (symB j))) := by
          apply Lib.hid; intro j hj; simpa using hc5 j hj
         clear hc5 hz5 hb5 hB HT HM
         go_wp2_with fail
         go_loopw [8, 62] (fun _ v W => ∃ k : Nat, k ≤ 21 ∧ v = .int .i64 k ∧ TabF W (w.heap.size + 1) w.heap.size (upd (upd (f4 10) 35 2) 95 16) ∧ (∀ j, j < 21 → W.cell? ⟨W4.heap.size, j, none⟩ = some (.string (symB j))) ∧ W.ownsMap (H := Unit) Tryz.prog 9 (plainElem Tryz.prog 4) w.heap.size k (putAll (Lx.syms.take k) (.map [])) ∧ Below w.heap.size w W ∧ W4.heap.size < W.heap.size) (fun _ v _ => 21 - (RowKit.intOf v).toNat)
         case atStart => exact ⟨0, by omega, rfl, HT5.out, HC5.out, HM5.out, hB5, hz6⟩
         case round =>
          clear HT5 HC5 HM5 hB5 hz6
          obtain ⟨k, hk, rfl, hT, hC, hM, hB, hY⟩ := hrel
          by_cases hlt : k < 21
          ·have h1 := hC k hlt
           have h2 := hT.map
           have HT := Lib.hid hT
           have HC := Lib.hid hC
           have HM := Lib.hid hM
           have HSB := Lib.hid (symB_size k hlt)
           clear hT hC hM
           go_wp2_with (at_mapUpdate; refine wpList_mapUpdate_own _ rfl _ _ _ 130 rfl 9 4 keyed9 Tryz.underlying130 _ w.heap.size k _ rfl HM.out (by unfold maxLen; omega) _ _ _ rfl rfl (WideMaps.keyOf_string_mk Tryz.underlying9 HSB.out) _ [] (plainElem_bool Tryz.underlying4 true) ?_; intro w1 hown1 hgrow1)
           clear h1 h2
           go_roundw
           case rel => exact ⟨k + 1, by omega, by go_num, HT.out.grown hgrow1 (by omega) (by omega), fun j hj => (cell_grown hgrow1 hY (by omega)).trans (HC.out j hj), by rw [symB_data k hlt, putAll_snoc]; exact hown1, hB.grown hgrow1 (by omega) (fun j e => by simp at e; omega), Nat.lt_of_lt_of_le hY hgrow1.size⟩
           case measure => simp [RowKit.intOf]; omega
          ·obtain rfl : k = 21 := by omega
           have HT := Lib.hid hT
           have HM := Lib.hid hM
           clear hT hC hM hlt
           go_wp2
           go_ret
           exact ⟨rfl, ⟨by omega, by omega, fun i hi => by rw [HT.out.cls i hi, f_all i hi], ⟨21, _, HT.out.map, HM.out, putAll_syms⟩, HE.out.below hB (Nat.le_refl _)⟩, hB⟩
end Go.Proofs.YtpdhiminpdmpiaaGreatDoor
