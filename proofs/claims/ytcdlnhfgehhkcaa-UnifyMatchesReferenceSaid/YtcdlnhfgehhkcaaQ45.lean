/- part of the proof -/
import Derived.Test.YtcdlnhfgehhkcaaQ44
import Derived.Test.YtcdlnhfgehhkcaaQ35
set_option linter.unusedVariables false
set_option linter.unusedSimpArgs false
set_option linter.unusedSectionVars false
namespace Go.Proofs.Ytcdlnhfgehhkcaa
open Go.RowKit Go.Lib
open Un (kd nm ar size sizes same mts)
theorem info_bool2 : (Try.prog.info? 4).map (fun i => (i.zero,i.size,i.bytes)) = some (some (.bool false),1,1):=by kernel_rfl
def RMatP (r : Option (List Ty)) (w : World) (e : Ending) (w' : World) : Prop:=Fr [] w w' ∧ match r with
 | none => e = .returned (.tuple #[.slice none 0 0,.bool false])
 | some l => ∃ v,e = .returned (.tuple #[v,.bool true]) ∧ TysV w' (fun _ => True) l v
theorem els_made {w : World} {N : Nat → Prop} {b n : Nat} (h : Blk w b 24 (madeCells #[.int .i64 0,.int .i64 0,.slice none 0 0] (n * 3))) (hn : n ≤ 4) : ElsA w w N b n (List.replicate n Un.zero):=by
 refine ⟨by simp,by unfold maxLen;omega,_,h,?_⟩
 have:=inn_zeros w N n
 rw [List.length_replicate]
 rw [List.take_of_length_le (by simp [madeCells])]
 simpa [madeCells,Array.toList_map] using this
theorem rfd_made {w : World} {B b k n : Nat} (h : Blk w b 24 (madeCells #[.int .i64 0,.int .i64 0,.slice none 0 0] (n * 3))) (hk : Blk w k 4 (madeCells #[.bool false] n)) (hn : n ≤ 4) : RFd w B n b k (fun _ => none) w:=by
 refine ⟨⟨List.replicate n Un.zero,by simp,fun i hi => by simp [List.getElem?_replicate,hi],els_made h hn⟩,?_,fun i h => by cases h⟩
 have e : ((List.range n).map fun (i : Nat) => (none : Option Ty).isSome) = List.replicate n false:=by
  refine List.ext_getElem? fun j => ?_
  by_cases hj : j < n
  ·rw [List.getElem?_map,List.getElem?_range hj,List.getElem?_replicate,if_pos hj];rfl
  ·rw [List.getElem?_eq_none (by simp;omega),List.getElem?_eq_none (by simp;omega)]
 show BoolsB w k ((List.range n).map fun (i : Nat) => (none : Option Ty).isSome)
 rw [e]
 exact BoolsB.made hk
theorem matched_of {w0 w : World} {B n tb kb : Nat} {a b : Ty} (h : RFd w0 B n tb kb (Un.mt n a b (fun _ => none)).1 w) (hv : (Un.mt n a b (fun _ => none)).2 = true) (hf : Fr [tb,kb] w0 w) (hB : B ≤ tb ∧ B ≤ kb) (hn : n ≤ 4) : ∃ l,Un.matched n a b = some l ∧ TysV w (fun _ => True) l (.slice (some ⟨tb,0,none⟩) n n):=by
 obtain ⟨⟨L,l1,l2,l3⟩,_,_⟩:=h
 refine ⟨_,by unfold Un.matched;rw [if_pos hv],?_⟩
 have e : ((List.range n).map fun (i : Nat) => ((Un.mt (n : Int) a b (fun _ => none)).1 (i : Int)).getD Un.zero) = L:=by
  refine List.ext_getElem? fun j => ?_
  by_cases hj : j < n
  ·rw [List.getElem?_map,List.getElem?_range hj,Option.map_some,l2 j hj]
  ·rw [List.getElem?_eq_none (by simp;omega),List.getElem?_eq_none (by omega)]
 rw [e]
 by_cases h0 : n = 0
 ·subst h0
  have : L = []:=List.length_eq_zero_iff.1 l1
  subst this
  exact TysV.nil _ _
 ·have h1:=(l3.base (w1:=w) (K':=fun k => k < B) (fun k hk hl => ⟨hk,Nat.lt_of_lt_of_le hl hf.size,hf.block k hl (by simp;omega)⟩)).tys (by omega)
  rw [l1] at h1
  exact h1
set_option maxRecDepth 100000 in
set_option maxHeartbeats 6400000 in
theorem rMatch_in (n : Nat) (hn : n ≤ 4) (a b : Ty) (cs ds : List Value) (w : World) (ha : TyV w (fun _ => True) a cs) (hb : TyV w (fun _ => True) b ds) :
  Calls Try.prog 14 #[.agg cs.toArray,.agg ds.toArray,.int .i64 n] w (RMatP (Un.matched n a b) w):=by
 obtain ⟨p,c,rfl,_⟩:=ha.shape
 obtain ⟨q,d,rfl,_⟩:=hb.shape
 obtain ⟨k0,hk0,kz0,kz1,kz2⟩:=info_parts info_bool2
 obtain ⟨i0,hi0,iz0,iz1,iz2⟩:=info_parts info_ty
 have hms : ∀ w1 : World,(Instr.makeSlice 74 (.int .i64 (n : Int)) (.int .i64 (n : Int))).run Try.prog w1 = .ok (.slice (some ⟨w1.heap.size,0,none⟩) n n) (w1.alloc (.cells (madeCells #[.bool false] n) 4)):=fun w1 => by
  have:=run_makeSlice w1 74 4 k0 _ Try.underlying74 hk0 kz0 .i64 .i64 n n (by omega) (Int.le_refl _) (by rw [kz1];simp;omega) (by rw [kz2];omega) (by omega)
  rw [kz1] at this
  simpa [Value.cells] using this
 have hms2 : ∀ w1 : World,(Instr.makeSlice 22 (.int .i64 (n : Int)) (.int .i64 (n : Int))).run Try.prog w1 = .ok (.slice (some ⟨w1.heap.size,0,none⟩) n n) (w1.alloc (.cells (madeCells #[.int .i64 0,.int .i64 0,.slice none 0 0] (n * 3)) 24)):=fun w1 => by
  have:=run_makeSlice w1 22 24 i0 _ Try.underlying22 hi0 iz0 .i64 .i64 n n (by omega) (Int.le_refl _) (by rw [iz1];simp;omega) (by rw [iz2];omega) (by omega)
  rw [iz1] at this
  simpa [Value.cells] using this
 have e1 : decide ((n : Int) < 0) = false:=decide_eq_false (by omega)
 have e2 : decide ((4 : Int) < (n : Int)) = false:=decide_eq_false (by omega)
 obtain ⟨w1,hw1⟩ : ∃ w1,w1 = (w.alloc (.cells #[.int .i64 (kd a),.int .i64 (nm a),.slice p (ar a).length c] 24)).alloc (.cells #[.int .i64 (kd b),.int .i64 (nm b),.slice q (ar b).length d] 24):=⟨_,rfl⟩
 have HF1 : Hid (Fr [] w w1):=hid (by rw [hw1];exact ((Fr.refl _ _).alloc _).alloc _)
 have HP1 : Hid (Blk w1 w.heap.size 24 #[.int .i64 (kd a),.int .i64 (nm a),.slice p (ar a).length c]):=hid (by rw [hw1];exact (Blk.new _ _ _).alloc _)
 have HT1 : Hid (Blk w1 (w.heap.size + 1) 24 #[.int .i64 (kd b),.int .i64 (nm b),.slice q (ar b).length d]):=hid (by rw [hw1];exact Blk.new_at (by simp))
 have HS1 : Hid (w1.heap.size = w.heap.size + 2):=hid (by rw [hw1];simp)
 have HTA : Hid (TyV w1 (fun k => k < w.heap.size) a [.int .i64 (kd a),.int .i64 (nm a),.slice p (ar a).length c]):=hid ((TyV.weak ha (fun k hk _ => hk)).keep0 HF1.out)
 have HTB : Hid (TyV w1 (fun k => k < w.heap.size) b [.int .i64 (kd b),.int .i64 (nm b),.slice q (ar b).length d]):=hid ((TyV.weak hb (fun k hk _ => hk)).keep0 HF1.out)
 obtain ⟨R,hR⟩ : ∃ R,R = Un.mt n a b (fun _ => none):=⟨_,rfl⟩
 have HM0 : Hid (R.2 = false → Un.matched n a b = none):=hid (fun h => by unfold Un.matched;rw [if_neg (by rw [← hR,h];decide)])
 have HM1 : Hid (∀ (w0 w : World) (tb kb : Nat),R.2 = true → RFd w0 w1.heap.size n tb kb R.1 w → Fr [tb,kb] w0 w → w1.heap.size ≤ tb ∧ w1.heap.size ≤ kb → ∃ l,Un.matched n a b = some l ∧ TysV w (fun _ => True) l (.slice (some ⟨tb,0,none⟩) n n)):=hid (fun w0 w tb kb hv h hf hB => matched_of (B:=w1.heap.size) (by rw [← hR];exact h) (by rw [← hR];exact hv) hf hB hn)
 obtain ⟨M,hM⟩ : ∃ M,M = Un.matched n a b:=⟨_,rfl⟩
 rw [← hM] at HM0 HM1 ⊢
 clear ha hb hk0 kz0 kz1 kz2 hi0 iz0 iz1 iz2 hM
 have HRR:=hid hR
 clear hR
 go_enter Try.func14,Try.ntmps14
 go_wp2_with fail
 rw [← hw1]
 clear hw1
 go_region
 ·obtain ⟨W,hW⟩ : ∃ W,W = ((((w1.alloc (.cells (madeCells #[.int .i64 0,.int .i64 0,.slice none 0 0] (n * 3)) 24)).alloc (.cells (madeCells #[.bool false] n) 4)).alloc (.cells #[.slice (some ⟨w1.heap.size,0,none⟩) n n,.slice (some ⟨w1.heap.size + 1,0,none⟩) n n] 76)).drew):=⟨_,rfl⟩
  have hfw : Fr [] w1 W:=by rw [hW];exact ((((Fr.refl _ _).alloc _).alloc _).alloc _).drew
  have hbt : Blk W (w1.heap.size) 24 (madeCells #[.int .i64 0,.int .i64 0,.slice none 0 0] (n * 3)):=by rw [hW];exact (show Blk _ _ _ _ from ((Blk.new _ _ _).alloc _).alloc _)
  have hbk : Blk W (w1.heap.size + 1) 4 (madeCells #[.bool false] n):=by rw [hW];exact (show Blk _ _ _ _ from (Blk.new_at (by simp)).alloc _)
  have HBF : Hid (Blk W (w1.heap.size + 1 + 1) 76 #[.slice (some ⟨w1.heap.size,0,none⟩) n n,.slice (some ⟨w1.heap.size + 1,0,none⟩) n n]):=hid (by rw [hW];exact (show Blk _ _ _ _ from Blk.new_at (by simp)))
  rw [← hW]
  clear hW
  have HFW : Hid (Fr [] w W):=hid (HF1.out.trans hfw)
  have HCL:=hid (rmatch_any W w1.heap.size n (w1.heap.size) (w1.heap.size + 1) hn (by omega) ⟨by omega,by omega⟩ hfw.size (size a) a (Nat.le_refl _) b (fun _ => none) _ _ W (Fr.refl _ _) ((TyV.weak HTA.out (fun k hk _ => hk)).keep0 hfw) ((TyV.weak HTB.out (fun k hk _ => hk)).keep0 hfw) (rfd_made hbt hbk hn))
  rw [← HRR.out] at HCL
  have HPW:=hid (HP1.out.keep hfw (by simp))
  have HTW:=hid (HT1.out.keep hfw (by simp))
  have a0 : W.cell? ⟨w.heap.size,0,none⟩ = some (.int .i64 (kd a)):=HPW.out.cell 0
  have a1 : W.cell? ⟨w.heap.size,1,none⟩ = some (.int .i64 (nm a)):=HPW.out.cell 1
  have a2 : W.cell? ⟨w.heap.size,2,none⟩ = some (.slice p (ar a).length c):=HPW.out.cell 2
  have al : w.heap.size < W.heap.size:=HPW.out.lt
  have b0 : W.cell? ⟨w.heap.size + 1,0,none⟩ = some (.int .i64 (kd b)):=HTW.out.cell 0
  have b1 : W.cell? ⟨w.heap.size + 1,1,none⟩ = some (.int .i64 (nm b)):=HTW.out.cell 1
  have b2 : W.cell? ⟨w.heap.size + 1,2,none⟩ = some (.slice q (ar b).length d):=HTW.out.cell 2
  have bl : w.heap.size + 1 < W.heap.size:=HTW.out.lt
  have f0 : W.cell? ⟨w1.heap.size + 1 + 1,0,none⟩ = some (.slice (some ⟨w1.heap.size,0,none⟩) n n):=HBF.out.cell 0
  have f1 : W.cell? ⟨w1.heap.size + 1 + 1,1,none⟩ = some (.slice (some ⟨w1.heap.size + 1,0,none⟩) n n):=HBF.out.cell 1
  have fl : w1.heap.size + 1 + 1 < W.heap.size:=HBF.out.lt
  clear hfw hbt hbk
  go_wp2_with fail
  refine HCL.out.mono ?_
  obtain ⟨s1,v1⟩:=R
  cases v1 with
  | false =>
   rintro e w9 ⟨rfl,hf9,_⟩
   have HF9 : Hid (Fr [] w w9):=hid (((HFW.out.nil _).trans hf9).sub (Y:=[]) (fun k hk => .inr (by have:=HS1.out;simp at hk;omega)))
   have HQ:=hid (HM0.out rfl)
   clear hf9 a0 a1 a2 al b0 b1 b2 bl f0 f1 fl
   go_wp2_with fail
   exact bodyPost_ret (v:=.tuple #[.slice none 0 0,.bool false]) (by simp [results,Try.results14,go_sem]) rfl ⟨HF9.out,by rw [HQ.out]⟩
  | true =>
   rintro e w9 ⟨rfl,hf9,hr9⟩
   have HF9 : Hid (Fr [] w w9):=hid (((HFW.out.nil _).trans hf9).sub (Y:=[]) (fun k hk => .inr (by have:=HS1.out;simp at hk;omega)))
   obtain ⟨l,hl1,hl2⟩:=HM1.out W w9 (w1.heap.size) (w1.heap.size + 1) rfl (hr9 rfl) hf9 ⟨by omega,by omega⟩
   have HL1:=hid hl1
   have HL2:=hid hl2
   have HB9:=hid (HBF.out.keep hf9 (by simp <;> omega))
   clear hf9 hr9 hl1 hl2 a0 a1 a2 al b0 b1 b2 bl f0 f1 fl
   have f0 : w9.cell? ⟨w1.heap.size + 1 + 1,0,none⟩ = some (.slice (some ⟨w1.heap.size,0,none⟩) n n):=HB9.out.cell 0
   have fl : w1.heap.size + 1 + 1 < w9.heap.size:=HB9.out.lt
   go_wp2_with fail
   exact bodyPost_ret (v:=.tuple #[.slice (some ⟨w1.heap.size,0,none⟩) n n,.bool true]) (by simp [results,Try.results14,go_sem]) rfl ⟨HF9.out,by rw [HL1.out];exact ⟨_,rfl,HL2.out⟩⟩
 ·obtain ⟨W,hW⟩ : ∃ W,W = ((((w1.alloc (.cells (madeCells #[.int .i64 0,.int .i64 0,.slice none 0 0] (n * 3)) 24)).alloc (.cells #[.slice (some ⟨w1.heap.size,0,none⟩) n n,.slice (some ⟨w1.heap.size + 1 + 1,0,none⟩) n n] 76)).alloc (.cells (madeCells #[.bool false] n) 4)).drew):=⟨_,rfl⟩
  have hfw : Fr [] w1 W:=by rw [hW];exact ((((Fr.refl _ _).alloc _).alloc _).alloc _).drew
  have hbt : Blk W (w1.heap.size) 24 (madeCells #[.int .i64 0,.int .i64 0,.slice none 0 0] (n * 3)):=by rw [hW];exact (show Blk _ _ _ _ from ((Blk.new _ _ _).alloc _).alloc _)
  have hbk : Blk W (w1.heap.size + 1 + 1) 4 (madeCells #[.bool false] n):=by rw [hW];exact (show Blk _ _ _ _ from Blk.new_at (by simp))
  have HBF : Hid (Blk W (w1.heap.size + 1) 76 #[.slice (some ⟨w1.heap.size,0,none⟩) n n,.slice (some ⟨w1.heap.size + 1 + 1,0,none⟩) n n]):=hid (by rw [hW];exact (show Blk _ _ _ _ from (Blk.new_at (by simp)).alloc _))
  rw [← hW]
  clear hW
  have HFW : Hid (Fr [] w W):=hid (HF1.out.trans hfw)
  have HCL:=hid (rmatch_any W w1.heap.size n (w1.heap.size) (w1.heap.size + 1 + 1) hn (by omega) ⟨by omega,by omega⟩ hfw.size (size a) a (Nat.le_refl _) b (fun _ => none) _ _ W (Fr.refl _ _) ((TyV.weak HTA.out (fun k hk _ => hk)).keep0 hfw) ((TyV.weak HTB.out (fun k hk _ => hk)).keep0 hfw) (rfd_made hbt hbk hn))
  rw [← HRR.out] at HCL
  have HPW:=hid (HP1.out.keep hfw (by simp))
  have HTW:=hid (HT1.out.keep hfw (by simp))
  have a0 : W.cell? ⟨w.heap.size,0,none⟩ = some (.int .i64 (kd a)):=HPW.out.cell 0
  have a1 : W.cell? ⟨w.heap.size,1,none⟩ = some (.int .i64 (nm a)):=HPW.out.cell 1
  have a2 : W.cell? ⟨w.heap.size,2,none⟩ = some (.slice p (ar a).length c):=HPW.out.cell 2
  have al : w.heap.size < W.heap.size:=HPW.out.lt
  have b0 : W.cell? ⟨w.heap.size + 1,0,none⟩ = some (.int .i64 (kd b)):=HTW.out.cell 0
  have b1 : W.cell? ⟨w.heap.size + 1,1,none⟩ = some (.int .i64 (nm b)):=HTW.out.cell 1
  have b2 : W.cell? ⟨w.heap.size + 1,2,none⟩ = some (.slice q (ar b).length d):=HTW.out.cell 2
  have bl : w.heap.size + 1 < W.heap.size:=HTW.out.lt
  have f0 : W.cell? ⟨w1.heap.size + 1,0,none⟩ = some (.slice (some ⟨w1.heap.size,0,none⟩) n n):=HBF.out.cell 0
  have f1 : W.cell? ⟨w1.heap.size + 1,1,none⟩ = some (.slice (some ⟨w1.heap.size + 1 + 1,0,none⟩) n n):=HBF.out.cell 1
  have fl : w1.heap.size + 1 < W.heap.size:=HBF.out.lt
  clear hfw hbt hbk
  go_wp2_with fail
  refine HCL.out.mono ?_
  obtain ⟨s1,v1⟩:=R
  cases v1 with
  | false =>
   rintro e w9 ⟨rfl,hf9,_⟩
   have HF9 : Hid (Fr [] w w9):=hid (((HFW.out.nil _).trans hf9).sub (Y:=[]) (fun k hk => .inr (by have:=HS1.out;simp at hk;omega)))
   have HQ:=hid (HM0.out rfl)
   clear hf9 a0 a1 a2 al b0 b1 b2 bl f0 f1 fl
   go_wp2_with fail
   exact bodyPost_ret (v:=.tuple #[.slice none 0 0,.bool false]) (by simp [results,Try.results14,go_sem]) rfl ⟨HF9.out,by rw [HQ.out]⟩
  | true =>
   rintro e w9 ⟨rfl,hf9,hr9⟩
   have HF9 : Hid (Fr [] w w9):=hid (((HFW.out.nil _).trans hf9).sub (Y:=[]) (fun k hk => .inr (by have:=HS1.out;simp at hk;omega)))
   obtain ⟨l,hl1,hl2⟩:=HM1.out W w9 (w1.heap.size) (w1.heap.size + 1 + 1) rfl (hr9 rfl) hf9 ⟨by omega,by omega⟩
   have HL1:=hid hl1
   have HL2:=hid hl2
   have HB9:=hid (HBF.out.keep hf9 (by simp <;> omega))
   clear hf9 hr9 hl1 hl2 a0 a1 a2 al b0 b1 b2 bl f0 f1 fl
   have f0 : w9.cell? ⟨w1.heap.size + 1,0,none⟩ = some (.slice (some ⟨w1.heap.size,0,none⟩) n n):=HB9.out.cell 0
   have fl : w1.heap.size + 1 < w9.heap.size:=HB9.out.lt
   go_wp2_with fail
   exact bodyPost_ret (v:=.tuple #[.slice (some ⟨w1.heap.size,0,none⟩) n n,.bool true]) (by simp [results,Try.results14,go_sem]) rfl ⟨HF9.out,by rw [HL1.out];exact ⟨_,rfl,HL2.out⟩⟩
 ·obtain ⟨W,hW⟩ : ∃ W,W = ((((w1.alloc (.cells (madeCells #[.bool false] n) 4)).alloc (.cells (madeCells #[.int .i64 0,.int .i64 0,.slice none 0 0] (n * 3)) 24)).alloc (.cells #[.slice (some ⟨w1.heap.size + 1,0,none⟩) n n,.slice (some ⟨w1.heap.size,0,none⟩) n n] 76)).drew):=⟨_,rfl⟩
  have hfw : Fr [] w1 W:=by rw [hW];exact ((((Fr.refl _ _).alloc _).alloc _).alloc _).drew
  have hbt : Blk W (w1.heap.size + 1) 24 (madeCells #[.int .i64 0,.int .i64 0,.slice none 0 0] (n * 3)):=by rw [hW];exact (show Blk _ _ _ _ from (Blk.new_at (by simp)).alloc _)
  have hbk : Blk W (w1.heap.size) 4 (madeCells #[.bool false] n):=by rw [hW];exact (show Blk _ _ _ _ from ((Blk.new _ _ _).alloc _).alloc _)
  have HBF : Hid (Blk W (w1.heap.size + 1 + 1) 76 #[.slice (some ⟨w1.heap.size + 1,0,none⟩) n n,.slice (some ⟨w1.heap.size,0,none⟩) n n]):=hid (by rw [hW];exact (show Blk _ _ _ _ from Blk.new_at (by simp)))
  rw [← hW]
  clear hW
  have HFW : Hid (Fr [] w W):=hid (HF1.out.trans hfw)
  have HCL:=hid (rmatch_any W w1.heap.size n (w1.heap.size + 1) (w1.heap.size) hn (by omega) ⟨by omega,by omega⟩ hfw.size (size a) a (Nat.le_refl _) b (fun _ => none) _ _ W (Fr.refl _ _) ((TyV.weak HTA.out (fun k hk _ => hk)).keep0 hfw) ((TyV.weak HTB.out (fun k hk _ => hk)).keep0 hfw) (rfd_made hbt hbk hn))
  rw [← HRR.out] at HCL
  have HPW:=hid (HP1.out.keep hfw (by simp))
  have HTW:=hid (HT1.out.keep hfw (by simp))
  have a0 : W.cell? ⟨w.heap.size,0,none⟩ = some (.int .i64 (kd a)):=HPW.out.cell 0
  have a1 : W.cell? ⟨w.heap.size,1,none⟩ = some (.int .i64 (nm a)):=HPW.out.cell 1
  have a2 : W.cell? ⟨w.heap.size,2,none⟩ = some (.slice p (ar a).length c):=HPW.out.cell 2
  have al : w.heap.size < W.heap.size:=HPW.out.lt
  have b0 : W.cell? ⟨w.heap.size + 1,0,none⟩ = some (.int .i64 (kd b)):=HTW.out.cell 0
  have b1 : W.cell? ⟨w.heap.size + 1,1,none⟩ = some (.int .i64 (nm b)):=HTW.out.cell 1
  have b2 : W.cell? ⟨w.heap.size + 1,2,none⟩ = some (.slice q (ar b).length d):=HTW.out.cell 2
  have bl : w.heap.size + 1 < W.heap.size:=HTW.out.lt
  have f0 : W.cell? ⟨w1.heap.size + 1 + 1,0,none⟩ = some (.slice (some ⟨w1.heap.size + 1,0,none⟩) n n):=HBF.out.cell 0
  have f1 : W.cell? ⟨w1.heap.size + 1 + 1,1,none⟩ = some (.slice (some ⟨w1.heap.size,0,none⟩) n n):=HBF.out.cell 1
  have fl : w1.heap.size + 1 + 1 < W.heap.size:=HBF.out.lt
  clear hfw hbt hbk
  go_wp2_with fail
  refine HCL.out.mono ?_
  obtain ⟨s1,v1⟩:=R
  cases v1 with
  | false =>
   rintro e w9 ⟨rfl,hf9,_⟩
   have HF9 : Hid (Fr [] w w9):=hid (((HFW.out.nil _).trans hf9).sub (Y:=[]) (fun k hk => .inr (by have:=HS1.out;simp at hk;omega)))
   have HQ:=hid (HM0.out rfl)
   clear hf9 a0 a1 a2 al b0 b1 b2 bl f0 f1 fl
   go_wp2_with fail
   exact bodyPost_ret (v:=.tuple #[.slice none 0 0,.bool false]) (by simp [results,Try.results14,go_sem]) rfl ⟨HF9.out,by rw [HQ.out]⟩
  | true =>
   rintro e w9 ⟨rfl,hf9,hr9⟩
   have HF9 : Hid (Fr [] w w9):=hid (((HFW.out.nil _).trans hf9).sub (Y:=[]) (fun k hk => .inr (by have:=HS1.out;simp at hk;omega)))
   obtain ⟨l,hl1,hl2⟩:=HM1.out W w9 (w1.heap.size + 1) (w1.heap.size) rfl (hr9 rfl) hf9 ⟨by omega,by omega⟩
   have HL1:=hid hl1
   have HL2:=hid hl2
   have HB9:=hid (HBF.out.keep hf9 (by simp <;> omega))
   clear hf9 hr9 hl1 hl2 a0 a1 a2 al b0 b1 b2 bl f0 f1 fl
   have f0 : w9.cell? ⟨w1.heap.size + 1 + 1,0,none⟩ = some (.slice (some ⟨w1.heap.size + 1,0,none⟩) n n):=HB9.out.cell 0
   have fl : w1.heap.size + 1 + 1 < w9.heap.size:=HB9.out.lt
   go_wp2_with fail
   exact bodyPost_ret (v:=.tuple #[.slice (some ⟨w1.heap.size + 1,0,none⟩) n n,.bool true]) (by simp [results,Try.results14,go_sem]) rfl ⟨HF9.out,by rw [HL1.out];exact ⟨_,rfl,HL2.out⟩⟩
 ·obtain ⟨W,hW⟩ : ∃ W,W = ((((w1.alloc (.cells (madeCells #[.bool false] n) 4)).alloc (.cells #[.slice (some ⟨w1.heap.size + 1 + 1,0,none⟩) n n,.slice (some ⟨w1.heap.size,0,none⟩) n n] 76)).alloc (.cells (madeCells #[.int .i64 0,.int .i64 0,.slice none 0 0] (n * 3)) 24)).drew):=⟨_,rfl⟩
  have hfw : Fr [] w1 W:=by rw [hW];exact ((((Fr.refl _ _).alloc _).alloc _).alloc _).drew
  have hbt : Blk W (w1.heap.size + 1 + 1) 24 (madeCells #[.int .i64 0,.int .i64 0,.slice none 0 0] (n * 3)):=by rw [hW];exact (show Blk _ _ _ _ from Blk.new_at (by simp))
  have hbk : Blk W (w1.heap.size) 4 (madeCells #[.bool false] n):=by rw [hW];exact (show Blk _ _ _ _ from ((Blk.new _ _ _).alloc _).alloc _)
  have HBF : Hid (Blk W (w1.heap.size + 1) 76 #[.slice (some ⟨w1.heap.size + 1 + 1,0,none⟩) n n,.slice (some ⟨w1.heap.size,0,none⟩) n n]):=hid (by rw [hW];exact (show Blk _ _ _ _ from (Blk.new_at (by simp)).alloc _))
  rw [← hW]
  clear hW
  have HFW : Hid (Fr [] w W):=hid (HF1.out.trans hfw)
  have HCL:=hid (rmatch_any W w1.heap.size n (w1.heap.size + 1 + 1) (w1.heap.size) hn (by omega) ⟨by omega,by omega⟩ hfw.size (size a) a (Nat.le_refl _) b (fun _ => none) _ _ W (Fr.refl _ _) ((TyV.weak HTA.out (fun k hk _ => hk)).keep0 hfw) ((TyV.weak HTB.out (fun k hk _ => hk)).keep0 hfw) (rfd_made hbt hbk hn))
  rw [← HRR.out] at HCL
  have HPW:=hid (HP1.out.keep hfw (by simp))
  have HTW:=hid (HT1.out.keep hfw (by simp))
  have a0 : W.cell? ⟨w.heap.size,0,none⟩ = some (.int .i64 (kd a)):=HPW.out.cell 0
  have a1 : W.cell? ⟨w.heap.size,1,none⟩ = some (.int .i64 (nm a)):=HPW.out.cell 1
  have a2 : W.cell? ⟨w.heap.size,2,none⟩ = some (.slice p (ar a).length c):=HPW.out.cell 2
  have al : w.heap.size < W.heap.size:=HPW.out.lt
  have b0 : W.cell? ⟨w.heap.size + 1,0,none⟩ = some (.int .i64 (kd b)):=HTW.out.cell 0
  have b1 : W.cell? ⟨w.heap.size + 1,1,none⟩ = some (.int .i64 (nm b)):=HTW.out.cell 1
  have b2 : W.cell? ⟨w.heap.size + 1,2,none⟩ = some (.slice q (ar b).length d):=HTW.out.cell 2
  have bl : w.heap.size + 1 < W.heap.size:=HTW.out.lt
  have f0 : W.cell? ⟨w1.heap.size + 1,0,none⟩ = some (.slice (some ⟨w1.heap.size + 1 + 1,0,none⟩) n n):=HBF.out.cell 0
  have f1 : W.cell? ⟨w1.heap.size + 1,1,none⟩ = some (.slice (some ⟨w1.heap.size,0,none⟩) n n):=HBF.out.cell 1
  have fl : w1.heap.size + 1 < W.heap.size:=HBF.out.lt
  clear hfw hbt hbk
  go_wp2_with fail
  refine HCL.out.mono ?_
  obtain ⟨s1,v1⟩:=R
  cases v1 with
  | false =>
   rintro e w9 ⟨rfl,hf9,_⟩
   have HF9 : Hid (Fr [] w w9):=hid (((HFW.out.nil _).trans hf9).sub (Y:=[]) (fun k hk => .inr (by have:=HS1.out;simp at hk;omega)))
   have HQ:=hid (HM0.out rfl)
   clear hf9 a0 a1 a2 al b0 b1 b2 bl f0 f1 fl
   go_wp2_with fail
   exact bodyPost_ret (v:=.tuple #[.slice none 0 0,.bool false]) (by simp [results,Try.results14,go_sem]) rfl ⟨HF9.out,by rw [HQ.out]⟩
  | true =>
   rintro e w9 ⟨rfl,hf9,hr9⟩
   have HF9 : Hid (Fr [] w w9):=hid (((HFW.out.nil _).trans hf9).sub (Y:=[]) (fun k hk => .inr (by have:=HS1.out;simp at hk;omega)))
   obtain ⟨l,hl1,hl2⟩:=HM1.out W w9 (w1.heap.size + 1 + 1) (w1.heap.size) rfl (hr9 rfl) hf9 ⟨by omega,by omega⟩
   have HL1:=hid hl1
   have HL2:=hid hl2
   have HB9:=hid (HBF.out.keep hf9 (by simp <;> omega))
   clear hf9 hr9 hl1 hl2 a0 a1 a2 al b0 b1 b2 bl f0 f1 fl
   have f0 : w9.cell? ⟨w1.heap.size + 1,0,none⟩ = some (.slice (some ⟨w1.heap.size + 1 + 1,0,none⟩) n n):=HB9.out.cell 0
   have fl : w1.heap.size + 1 < w9.heap.size:=HB9.out.lt
   go_wp2_with fail
   exact bodyPost_ret (v:=.tuple #[.slice (some ⟨w1.heap.size + 1 + 1,0,none⟩) n n,.bool true]) (by simp [results,Try.results14,go_sem]) rfl ⟨HF9.out,by rw [HL1.out];exact ⟨_,rfl,HL2.out⟩⟩
 ·obtain ⟨W,hW⟩ : ∃ W,W = ((((w1.alloc (.cells #[.slice (some ⟨w1.heap.size + 1,0,none⟩) n n,.slice (some ⟨w1.heap.size + 1 + 1,0,none⟩) n n] 76)).alloc (.cells (madeCells #[.int .i64 0,.int .i64 0,.slice none 0 0] (n * 3)) 24)).alloc (.cells (madeCells #[.bool false] n) 4)).drew):=⟨_,rfl⟩
  have hfw : Fr [] w1 W:=by rw [hW];exact ((((Fr.refl _ _).alloc _).alloc _).alloc _).drew
  have hbt : Blk W (w1.heap.size + 1) 24 (madeCells #[.int .i64 0,.int .i64 0,.slice none 0 0] (n * 3)):=by rw [hW];exact (show Blk _ _ _ _ from (Blk.new_at (by simp)).alloc _)
  have hbk : Blk W (w1.heap.size + 1 + 1) 4 (madeCells #[.bool false] n):=by rw [hW];exact (show Blk _ _ _ _ from Blk.new_at (by simp))
  have HBF : Hid (Blk W (w1.heap.size) 76 #[.slice (some ⟨w1.heap.size + 1,0,none⟩) n n,.slice (some ⟨w1.heap.size + 1 + 1,0,none⟩) n n]):=hid (by rw [hW];exact (show Blk _ _ _ _ from ((Blk.new _ _ _).alloc _).alloc _))
  rw [← hW]
  clear hW
  have HFW : Hid (Fr [] w W):=hid (HF1.out.trans hfw)
  have HCL:=hid (rmatch_any W w1.heap.size n (w1.heap.size + 1) (w1.heap.size + 1 + 1) hn (by omega) ⟨by omega,by omega⟩ hfw.size (size a) a (Nat.le_refl _) b (fun _ => none) _ _ W (Fr.refl _ _) ((TyV.weak HTA.out (fun k hk _ => hk)).keep0 hfw) ((TyV.weak HTB.out (fun k hk _ => hk)).keep0 hfw) (rfd_made hbt hbk hn))
  rw [← HRR.out] at HCL
  have HPW:=hid (HP1.out.keep hfw (by simp))
  have HTW:=hid (HT1.out.keep hfw (by simp))
  have a0 : W.cell? ⟨w.heap.size,0,none⟩ = some (.int .i64 (kd a)):=HPW.out.cell 0
  have a1 : W.cell? ⟨w.heap.size,1,none⟩ = some (.int .i64 (nm a)):=HPW.out.cell 1
  have a2 : W.cell? ⟨w.heap.size,2,none⟩ = some (.slice p (ar a).length c):=HPW.out.cell 2
  have al : w.heap.size < W.heap.size:=HPW.out.lt
  have b0 : W.cell? ⟨w.heap.size + 1,0,none⟩ = some (.int .i64 (kd b)):=HTW.out.cell 0
  have b1 : W.cell? ⟨w.heap.size + 1,1,none⟩ = some (.int .i64 (nm b)):=HTW.out.cell 1
  have b2 : W.cell? ⟨w.heap.size + 1,2,none⟩ = some (.slice q (ar b).length d):=HTW.out.cell 2
  have bl : w.heap.size + 1 < W.heap.size:=HTW.out.lt
  have f0 : W.cell? ⟨w1.heap.size,0,none⟩ = some (.slice (some ⟨w1.heap.size + 1,0,none⟩) n n):=HBF.out.cell 0
  have f1 : W.cell? ⟨w1.heap.size,1,none⟩ = some (.slice (some ⟨w1.heap.size + 1 + 1,0,none⟩) n n):=HBF.out.cell 1
  have fl : w1.heap.size < W.heap.size:=HBF.out.lt
  clear hfw hbt hbk
  go_wp2_with fail
  refine HCL.out.mono ?_
  obtain ⟨s1,v1⟩:=R
  cases v1 with
  | false =>
   rintro e w9 ⟨rfl,hf9,_⟩
   have HF9 : Hid (Fr [] w w9):=hid (((HFW.out.nil _).trans hf9).sub (Y:=[]) (fun k hk => .inr (by have:=HS1.out;simp at hk;omega)))
   have HQ:=hid (HM0.out rfl)
   clear hf9 a0 a1 a2 al b0 b1 b2 bl f0 f1 fl
   go_wp2_with fail
   exact bodyPost_ret (v:=.tuple #[.slice none 0 0,.bool false]) (by simp [results,Try.results14,go_sem]) rfl ⟨HF9.out,by rw [HQ.out]⟩
  | true =>
   rintro e w9 ⟨rfl,hf9,hr9⟩
   have HF9 : Hid (Fr [] w w9):=hid (((HFW.out.nil _).trans hf9).sub (Y:=[]) (fun k hk => .inr (by have:=HS1.out;simp at hk;omega)))
   obtain ⟨l,hl1,hl2⟩:=HM1.out W w9 (w1.heap.size + 1) (w1.heap.size + 1 + 1) rfl (hr9 rfl) hf9 ⟨by omega,by omega⟩
   have HL1:=hid hl1
   have HL2:=hid hl2
   have HB9:=hid (HBF.out.keep hf9 (by simp <;> omega))
   clear hf9 hr9 hl1 hl2 a0 a1 a2 al b0 b1 b2 bl f0 f1 fl
   have f0 : w9.cell? ⟨w1.heap.size,0,none⟩ = some (.slice (some ⟨w1.heap.size + 1,0,none⟩) n n):=HB9.out.cell 0
   have fl : w1.heap.size < w9.heap.size:=HB9.out.lt
   go_wp2_with fail
   exact bodyPost_ret (v:=.tuple #[.slice (some ⟨w1.heap.size + 1,0,none⟩) n n,.bool true]) (by simp [results,Try.results14,go_sem]) rfl ⟨HF9.out,by rw [HL1.out];exact ⟨_,rfl,HL2.out⟩⟩
 ·obtain ⟨W,hW⟩ : ∃ W,W = ((((w1.alloc (.cells #[.slice (some ⟨w1.heap.size + 1 + 1,0,none⟩) n n,.slice (some ⟨w1.heap.size + 1,0,none⟩) n n] 76)).alloc (.cells (madeCells #[.bool false] n) 4)).alloc (.cells (madeCells #[.int .i64 0,.int .i64 0,.slice none 0 0] (n * 3)) 24)).drew):=⟨_,rfl⟩
  have hfw : Fr [] w1 W:=by rw [hW];exact ((((Fr.refl _ _).alloc _).alloc _).alloc _).drew
  have hbt : Blk W (w1.heap.size + 1 + 1) 24 (madeCells #[.int .i64 0,.int .i64 0,.slice none 0 0] (n * 3)):=by rw [hW];exact (show Blk _ _ _ _ from Blk.new_at (by simp))
  have hbk : Blk W (w1.heap.size + 1) 4 (madeCells #[.bool false] n):=by rw [hW];exact (show Blk _ _ _ _ from (Blk.new_at (by simp)).alloc _)
  have HBF : Hid (Blk W (w1.heap.size) 76 #[.slice (some ⟨w1.heap.size + 1 + 1,0,none⟩) n n,.slice (some ⟨w1.heap.size + 1,0,none⟩) n n]):=hid (by rw [hW];exact (show Blk _ _ _ _ from ((Blk.new _ _ _).alloc _).alloc _))
  rw [← hW]
  clear hW
  have HFW : Hid (Fr [] w W):=hid (HF1.out.trans hfw)
  have HCL:=hid (rmatch_any W w1.heap.size n (w1.heap.size + 1 + 1) (w1.heap.size + 1) hn (by omega) ⟨by omega,by omega⟩ hfw.size (size a) a (Nat.le_refl _) b (fun _ => none) _ _ W (Fr.refl _ _) ((TyV.weak HTA.out (fun k hk _ => hk)).keep0 hfw) ((TyV.weak HTB.out (fun k hk _ => hk)).keep0 hfw) (rfd_made hbt hbk hn))
  rw [← HRR.out] at HCL
  have HPW:=hid (HP1.out.keep hfw (by simp))
  have HTW:=hid (HT1.out.keep hfw (by simp))
  have a0 : W.cell? ⟨w.heap.size,0,none⟩ = some (.int .i64 (kd a)):=HPW.out.cell 0
  have a1 : W.cell? ⟨w.heap.size,1,none⟩ = some (.int .i64 (nm a)):=HPW.out.cell 1
  have a2 : W.cell? ⟨w.heap.size,2,none⟩ = some (.slice p (ar a).length c):=HPW.out.cell 2
  have al : w.heap.size < W.heap.size:=HPW.out.lt
  have b0 : W.cell? ⟨w.heap.size + 1,0,none⟩ = some (.int .i64 (kd b)):=HTW.out.cell 0
  have b1 : W.cell? ⟨w.heap.size + 1,1,none⟩ = some (.int .i64 (nm b)):=HTW.out.cell 1
  have b2 : W.cell? ⟨w.heap.size + 1,2,none⟩ = some (.slice q (ar b).length d):=HTW.out.cell 2
  have bl : w.heap.size + 1 < W.heap.size:=HTW.out.lt
  have f0 : W.cell? ⟨w1.heap.size,0,none⟩ = some (.slice (some ⟨w1.heap.size + 1 + 1,0,none⟩) n n):=HBF.out.cell 0
  have f1 : W.cell? ⟨w1.heap.size,1,none⟩ = some (.slice (some ⟨w1.heap.size + 1,0,none⟩) n n):=HBF.out.cell 1
  have fl : w1.heap.size < W.heap.size:=HBF.out.lt
  clear hfw hbt hbk
  go_wp2_with fail
  refine HCL.out.mono ?_
  obtain ⟨s1,v1⟩:=R
  cases v1 with
  | false =>
   rintro e w9 ⟨rfl,hf9,_⟩
   have HF9 : Hid (Fr [] w w9):=hid (((HFW.out.nil _).trans hf9).sub (Y:=[]) (fun k hk => .inr (by have:=HS1.out;simp at hk;omega)))
   have HQ:=hid (HM0.out rfl)
   clear hf9 a0 a1 a2 al b0 b1 b2 bl f0 f1 fl
   go_wp2_with fail
   exact bodyPost_ret (v:=.tuple #[.slice none 0 0,.bool false]) (by simp [results,Try.results14,go_sem]) rfl ⟨HF9.out,by rw [HQ.out]⟩
  | true =>
   rintro e w9 ⟨rfl,hf9,hr9⟩
   have HF9 : Hid (Fr [] w w9):=hid (((HFW.out.nil _).trans hf9).sub (Y:=[]) (fun k hk => .inr (by have:=HS1.out;simp at hk;omega)))
   obtain ⟨l,hl1,hl2⟩:=HM1.out W w9 (w1.heap.size + 1 + 1) (w1.heap.size + 1) rfl (hr9 rfl) hf9 ⟨by omega,by omega⟩
   have HL1:=hid hl1
   have HL2:=hid hl2
   have HB9:=hid (HBF.out.keep hf9 (by simp <;> omega))
   clear hf9 hr9 hl1 hl2 a0 a1 a2 al b0 b1 b2 bl f0 f1 fl
   have f0 : w9.cell? ⟨w1.heap.size,0,none⟩ = some (.slice (some ⟨w1.heap.size + 1 + 1,0,none⟩) n n):=HB9.out.cell 0
   have fl : w1.heap.size < w9.heap.size:=HB9.out.lt
   go_wp2_with fail
   exact bodyPost_ret (v:=.tuple #[.slice (some ⟨w1.heap.size + 1 + 1,0,none⟩) n n,.bool true]) (by simp [results,Try.results14,go_sem]) rfl ⟨HF9.out,by rw [HL1.out];exact ⟨_,rfl,HL2.out⟩⟩
set_option maxRecDepth 100000 in
set_option maxHeartbeats 1600000 in
theorem rMatch_out (n : Int) (hn : n < 0 ∨ 4 < n) (a b : Ty) (cs ds : List Value) (w : World) (ha : TyV w (fun _ => True) a cs) (hb : TyV w (fun _ => True) b ds) :
  Calls Try.prog 14 #[.agg cs.toArray,.agg ds.toArray,.int .i64 n] w (RMatP none w):=by
 obtain ⟨p,c,rfl,_⟩:=ha.shape
 obtain ⟨q,d,rfl,_⟩:=hb.shape
 clear ha hb
 by_cases h0 : n < 0
 ·have e1 : decide (n < 0) = true:=by simpa using h0
  clear hn h0
  go_enter Try.func14,Try.ntmps14
  go_wp2_with fail
  exact bodyPost_ret (v:=.tuple #[.slice none 0 0,.bool false]) (by simp [results,Try.results14,go_sem]) rfl ⟨((Fr.refl _ _).alloc _).alloc _,rfl⟩
 ·have e1 : decide (n < 0) = false:=by simpa using h0
  have e2 : decide ((4 : Int) < n) = true:=decide_eq_true (by omega)
  clear hn h0
  go_enter Try.func14,Try.ntmps14
  go_wp2_with fail
  exact bodyPost_ret (v:=.tuple #[.slice none 0 0,.bool false]) (by simp [results,Try.results14,go_sem]) rfl ⟨((Fr.refl _ _).alloc _).alloc _,rfl⟩
end Go.Proofs.Ytcdlnhfgehhkcaa
