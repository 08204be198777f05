/-
  The walk of the reader of statements, the second half.
-/
import Derived.Test.YtefihbhcdocgfaaGreatDoorZGF10
set_option linter.unusedVariables false
set_option linter.unusedSimpArgs false
set_option linter.unusedSectionVars false

namespace Go.Proofs.YtefihbhcdocgfaaGreatDoor
open Go.RowKit Go.Lib
open Lx (Tk)
open Px (Txt TyE VarD DataD TraitD BoundD ImplD ArgD ExprD StmtD ArmD FuncD ModD)

theorem take_ts (c : Ctx) (ts : List Tk) (w : World) (h : Inv c ts w) (hne : ts ≠ []) : Calls Tryz.prog 98 #[.pointer (some ⟨c.R, 0, none⟩)] w fun e w' => ∃ v, e = .returned v ∧ Fr [c.R] w w' ∧ Inv c ts.tail w' := by
  cases ts with
  | nil => exact absurd rfl hne
  | cons t r => exact (take_any c t r w h).mono fun e w' hh => ⟨_, hh.1, hh.2.1, hh.2.2⟩
theorem enters_form (K : Nat) (hK : K ∈ ([1, 3, 4, 5, 6, 7, 8, 9, 10, 11, 12, 13] : List Nat)) : Enters (fnNum K) := by
  intro a w
  simp only [List.mem_cons, List.not_mem_nil, or_false] at hK
  rcases hK with rfl | rfl | rfl | rfl | rfl | rfl | rfl | rfl | rfl | rfl | rfl | rfl <;> kernel_rfl
theorem form_any (c : Ctx) (K o : Nat) (hK : K ∈ ([1, 3, 4, 5, 6, 7, 8, 9, 10, 11, 12, 13] : List Nat)) (ts : List Tk) (w : World) (h : Inv c ts w) (b : Nat) (hap : c.Apart b) (hD : Blk w b 75 #[.int .i64 K, .string ⟨#[]⟩, .slice none 0 0, .slice none 0 0, .int .i64 0, .string ⟨#[]⟩, .string ⟨#[]⟩, .string ⟨#[]⟩, .slice none 0 0, .int .i64 0, .slice none 0 0, .int .i64 0, .slice none 0 0, .slice none 0 0, .slice none 0 0, .slice none 0 0, .int .i64 o]) (n m : Nat) (S : Px.Rd StmtD) (hty : Reads c 87 n (okAgg typeQ) (Px.typeF c.size n)) (hst : Reads c 115 m (okAgg stmtQ) S) (hsh : Shr S) (hstr : Strict S) (hm : ts.length < n) (hm2 : ts.length < m) :
    Calls Tryz.prog (fnNum K) #[.pointer (some ⟨c.R, 0, none⟩), .pointer (some ⟨b, 0, none⟩)] w (RPB c b 75 w (okCells stmtQ) (Px.afterForm c.size n S K o ts)) := by
  have hst' : ∀ k, k ≤ m → Reads c 115 k (okAgg stmtQ) S := fun k hk ts w h hl => hst ts w h (by omega)
  have hra' : Reads c 90 (min n m) (okAgg armQ) (Px.arm c.size S) := fun ts w h hl => arm_any c ts w h n m S hty hst hsh hstr (by omega) (by omega)
  simp only [List.mem_cons, List.not_mem_nil, or_false] at hK
  rcases hK with rfl | rfl | rfl | rfl | rfl | rfl | rfl | rfl | rfl | rfl | rfl | rfl
  · exact let_any c o ts w h b hap hD n m S hty hst hsh hstr hm hm2
  · exact store_any c o ts w h b hap hD n m S hty hst hsh hstr hm hm2
  · exact choice_any c o ts w h b hap hD n m S hty hst hsh hstr hm hm2
  · exact loop_any c o ts w h b hap hD n m S hty hst hsh hstr hm hm2
  · exact match_any c o ts w h b hap hD n (min n m) S hty (hst' _ (by omega)) hsh hstr hm (by omega) hra'
  · exact named_any c 7 o ts w h b hap hD n m S hty hst hsh hstr hm hm2
  · exact bare_any c o ts w h b hap hD n m S hty hst hsh hstr hm hm2
  · exact named_any c 9 o ts w h b hap hD n m S hty hst hsh hstr hm hm2
  · exact named_any c 10 o ts w h b hap hD n m S hty hst hsh hstr hm hm2
  · exact send_any c o ts w h b hap hD n m S hty hst hsh hstr hm hm2
  · exact spawn_any c o ts w h b hap hD n m S hty hst hsh hstr hm hm2
  · exact local_any c o ts w h b hap hD n m S hty hst hsh hstr hm hm2

set_option maxRecDepth 100000 in
set_option maxHeartbeats 1600000 in
theorem stmt_found (c : Ctx) (n m : Nat) (ts : List Tk) (w : World) (h : Inv c ts w) (hty : Reads c 87 n (okAgg typeQ) (Px.typeF c.size n)) (hst : Reads c 115 m (okAgg stmtQ) (Px.stmtF c.size n m)) (hm : ts.length < n) (hm2 : ts.length < m + 1) (hset : Px.formOf (Px.word ts) ≠ 2) :
    Calls Tryz.prog 115 #[.pointer (some ⟨c.R, 0, none⟩)] w (RP c w (okAgg stmtQ) (Px.stmtF c.size n (m + 1) ts)) := by
  have HST : Hid (Reads c 115 m (okAgg stmtQ) (Px.stmtF c.size n m)) := Lib.hid hst
  clear hst
  have HTY : Hid (Reads c 87 n (okAgg typeQ) (Px.typeF c.size n)) := Lib.hid hty
  clear hty
  obtain ⟨K, hKS⟩ : ∃ K, Px.formOf (Px.word ts) = K := ⟨_, rfl⟩
  have HKM : Hid (K ∈ ([1, 3, 4, 5, 6, 7, 8, 9, 10, 11, 12, 13] : List Nat)) := Lib.hid (by rw [← hKS]; exact (formOf_kinds _).resolve_left hset)
  have HK2 : Hid (K ≠ 2) := Lib.hid (by rw [← hKS]; exact hset)
  have HK0 : Hid (K ≠ 0) := Lib.hid (by intro e; have := HKM.out; rw [e] at this; exact absurd this (by decide))
  have HNE : Hid (ts ≠ []) := Lib.hid (by rintro rfl; exact hset rfl)
  have HEN : Hid (Enters (fnNum K)) := Lib.hid (enters_form K HKM.out)
  have HFB : Hid ((!(Px.formOf (Px.word ts) == 2)) = true) := Lib.hid (by simpa using hset)
  have HKA : Hid (kindAt (Px.word ts) = K) := Lib.hid (by unfold kindAt; rw [if_neg hset, hKS])
  have HKS := Lib.hid hKS
  have HW := Lib.hid (word_len h)
  clear hset hKS
  have H := Lib.hid h
  have HR0 := H.out.lt.1
  clear h
  go_enter Tryz.func115, Tryz.ntmps115
  go_wp2_with fail
  refine (offset_any c ts _ (by exact H.out.fr (X := []) H.out (by repeat' (first | with_reducible exact Fr.refl _ _ | with_reducible refine Fr.setCell ?_ (Or.inl ?_) _ | with_reducible refine Fr.alloc ?_ _ | with_reducible refine Fr.drewN ?_ _ | with_reducible refine Fr.drew ?_ | (simp; done))) (by simp))).mono ?_
  rintro e w' ⟨rfl, rfl⟩
  go_upto_region 2 with fail
  obtain ⟨w0, hw0⟩ : ∃ w0, w0 = (w.alloc (.cells #[.int .i64 0, .string ⟨#[]⟩, .slice none 0 0, .slice none 0 0, .int .i64 0, .string ⟨#[]⟩, .string ⟨#[]⟩, .string ⟨#[]⟩, .slice none 0 0, .int .i64 0, .slice none 0 0, .int .i64 0, .slice none 0 0, .slice none 0 0, .slice none 0 0, .slice none 0 0, .int .i64 0] 75)).alloc (.cells #[.int .i64 0, .string ⟨#[]⟩, .slice none 0 0, .slice none 0 0, .int .i64 0, .string ⟨#[]⟩, .string ⟨#[]⟩, .string ⟨#[]⟩, .slice none 0 0, .int .i64 0, .slice none 0 0, .int .i64 0, .slice none 0 0, .slice none 0 0, .slice none 0 0, .slice none 0 0, .int .i64 (offOf c.size ts)] 75) := ⟨_, rfl⟩
  have HI0 : Hid (Inv c ts w0) := Lib.hid (by rw [hw0]; exact (H.out.alloc _).alloc _)
  have HF0 : Hid (Fr [c.R] w w0) := Lib.hid (by rw [hw0]; exact ((Fr.refl _ _).alloc _).alloc _)
  have HB0 : Hid (Blk w0 (w.heap.size) 75 #[.int .i64 0, .string ⟨#[]⟩, .slice none 0 0, .slice none 0 0, .int .i64 0, .string ⟨#[]⟩, .string ⟨#[]⟩, .string ⟨#[]⟩, .slice none 0 0, .int .i64 0, .slice none 0 0, .int .i64 0, .slice none 0 0, .slice none 0 0, .slice none 0 0, .slice none 0 0, .int .i64 0]) := Lib.hid (by rw [hw0]; exact (Blk.new _ _ _).alloc _)
  have HD0 : Hid (Blk w0 (w.heap.size + 1) 75 #[.int .i64 0, .string ⟨#[]⟩, .slice none 0 0, .slice none 0 0, .int .i64 0, .string ⟨#[]⟩, .string ⟨#[]⟩, .string ⟨#[]⟩, .slice none 0 0, .int .i64 0, .slice none 0 0, .int .i64 0, .slice none 0 0, .slice none 0 0, .slice none 0 0, .slice none 0 0, .int .i64 (offOf c.size ts)]) := Lib.hid (by rw [hw0]; exact Blk.new_at (by simp))
  have hz0 : w0.heap.size = w.heap.size + 2 := by rw [hw0]; simp
  have hz0a : w0.heap.size ≤ w.heap.size + 2 := by omega
  have hz0b : w.heap.size + 2 ≤ w0.heap.size := by omega
  have HZ0 := Lib.hid hz0
  rw [← hw0]
  have hR3 := stmt_cell HI0.out
  have hRlt := HI0.out.lt.1
  have hl1 := forms_look c ts w0.drew HI0.out.drew HW.out
  have hl2 := forms_look c ts (w0.alloc (.cells #[.int .i64 0, .nilFunc] 129)).drew (HI0.out.alloc _).drew HW.out
  simp only [HFB.out, HKA.out] at hl1 hl2
  have hwd1 := word_any c ts w0.drew HI0.out.drew
  have hwd2 := word_any c ts (w0.alloc (.cells #[.int .i64 0, .nilFunc] 129)).drew (HI0.out.alloc _).drew
  have HWD1 := Lib.hid hwd1
  have HWD2 := Lib.hid hwd2
  clear hw0 hz0 hwd1 hwd2
  unfold formV at hl1 hl2; simp only [if_neg HK0.out] at hl1 hl2
  go_cut [4, 5] (fun s4 s5 wx => s4 = .pointer (some ⟨w0.heap.size, 0, none⟩) ∧ s5 = .bool true ∧ wx = (w0.alloc (.cells #[.int .i64 K, .func (.func (fnNum K)) #[] #[]] 129)).drew)
  case first =>
    go_region_held3 (fun w' => w'.cell? ⟨c.R, 3, none⟩ = some (.map (some c.Sb))) (go_keep) (first | (go_at_call 95; refine HWD1.out.mono ?_; rintro e w' ⟨rfl, rfl⟩) | (go_at_call 95; refine HWD2.out.mono ?_; rintro e w' ⟨rfl, rfl⟩))
    all_goals (try go_wp2_with fail)
    all_goals (go_meet; exact ⟨rfl, rfl, rfl⟩)
  case rest =>
    obtain ⟨rfl, rfl, rfl⟩ := hcut
    clear hl1 hl2 hR3
    go_wp2_with fail
    refine (take_ts c ts _ (by exact (HI0.out.alloc _).drew) HNE.out).mono ?_
    rintro e w1 ⟨v1, rfl, hf, hi⟩
    have hT : Fr [c.R] w0 w1 := Fr.trans (by repeat' (first | with_reducible exact Fr.refl _ _ | with_reducible refine Fr.setCell ?_ (Or.inl ?_) _ | with_reducible refine Fr.alloc ?_ _ | with_reducible refine Fr.drewN ?_ _ | with_reducible refine Fr.drew ?_ | (simp; done))) hf
    have HS1 : Hid (Blk w1 w0.heap.size 129 #[.int .i64 K, .func (.func (fnNum K)) #[] #[]]) := Lib.hid ((Blk.drew (Blk.new w0 _ _)).keep hf (by simp; omega))
    have HD1 : Hid (Blk w1 (w.heap.size + 1) 75 #[.int .i64 0, .string ⟨#[]⟩, .slice none 0 0, .slice none 0 0, .int .i64 0, .string ⟨#[]⟩, .string ⟨#[]⟩, .string ⟨#[]⟩, .slice none 0 0, .int .i64 0, .slice none 0 0, .int .i64 0, .slice none 0 0, .slice none 0 0, .slice none 0 0, .slice none 0 0, .int .i64 (offOf c.size ts)]) := Lib.hid (HD0.out.keep hT (by simp; omega))
    have HB1 : Hid (Blk w1 (w.heap.size) 75 #[.int .i64 0, .string ⟨#[]⟩, .slice none 0 0, .slice none 0 0, .int .i64 0, .string ⟨#[]⟩, .string ⟨#[]⟩, .string ⟨#[]⟩, .slice none 0 0, .int .i64 0, .slice none 0 0, .int .i64 0, .slice none 0 0, .slice none 0 0, .slice none 0 0, .slice none 0 0, .int .i64 0]) := Lib.hid (HB0.out.keep hT (by simp; omega))
    have HF1 := Lib.hid (HF0.out.trans hT)
    have HI1 := Lib.hid hi
    have hz1 : w0.heap.size + 1 ≤ w1.heap.size := by have := hf.size; simp at this; omega
    have hl1 : ts.tail.length + 1 = ts.length := by have := HNE.out; cases ts with | nil => exact absurd rfl this | cons t r => simp
    have k0 : w1.cell? ⟨w0.heap.size, 0, none⟩ = some (.int .i64 K) := HS1.out.cell 0
    have k1 : w1.cell? ⟨w0.heap.size, 1, none⟩ = some (.func (.func (fnNum K)) #[] #[]) := HS1.out.cell 1
    have hne2 : w.heap.size + 1 ≠ w0.heap.size := by omega
    have hne3 : w0.heap.size ≠ w.heap.size + 1 := by omega
    clear hT hf hi
    have hEn := HEN.out
    unfold Enters at hEn
    have hlD : w.heap.size + 1 < w1.heap.size := HD1.out.lt
    have d0 : w1.cell? ⟨w.heap.size + 1, 0, none⟩ = some (.int .i64 0) := HD1.out.cell 0
    have f0 : w1.frozen? ⟨w.heap.size + 1, 0, none⟩ = false := HD1.out.frozen 0
    go_wp2_with fail
    clear hlD d0 f0
    clear hEn k0 k1 hne2 hne3
    refine (form_any c K (offOf c.size ts) HKM.out ts.tail _ (by exact HI1.out.fr (X := [w.heap.size + 1]) H.out (by repeat' (first | with_reducible exact Fr.refl _ _ | with_reducible refine Fr.setCell ?_ (Or.inl ?_) _ | with_reducible refine Fr.alloc ?_ _ | with_reducible refine Fr.drewN ?_ _ | with_reducible refine Fr.drew ?_ | (simp; done))) (by simp)) (w.heap.size + 1) (H.out.apart (by simp)) (by exact HD1.out.set 0 _) n m (Px.stmtF c.size n m) HTY.out HST.out (shr_stmtF _ _ _) (strict_stmtF _ _ _) (by omega) (by omega)).mono ?_
    rintro e w2 hp
    rcases hp.cases with ⟨x2, ts2, cs2, hq2, hf, hi, rfl, hDn, hrep⟩ | ⟨ts2, hq2, hf, hi, rfl⟩
    · clear hp
      unfold okCells at hrep
      obtain ⟨y2_0, y2_1, y2_2, y2_3, y2_4, y2_5, y2_6, y2_7, y2_8, y2_9, y2_10, y2_11, y2_12, y2_13, y2_14, y2_15, y2_16, rfl⟩ := cells_17 (hrep.len.trans (len_stmtQ x2))
      obtain ⟨i2_0, rfl⟩ := hrep.kind 0 rfl (kind_stmtQ x2 0 rfl)
      obtain ⟨s2_1, rfl⟩ := hrep.kind 1 rfl (kind_stmtQ x2 1 rfl)
      obtain ⟨p2_2, n2_2, c2_2, rfl⟩ := hrep.kind 2 rfl (kind_stmtQ x2 2 rfl)
      obtain ⟨p2_3, n2_3, c2_3, rfl⟩ := hrep.kind 3 rfl (kind_stmtQ x2 3 rfl)
      obtain ⟨i2_4, rfl⟩ := hrep.kind 4 rfl (kind_stmtQ x2 4 rfl)
      obtain ⟨s2_5, rfl⟩ := hrep.kind 5 rfl (kind_stmtQ x2 5 rfl)
      obtain ⟨s2_6, rfl⟩ := hrep.kind 6 rfl (kind_stmtQ x2 6 rfl)
      obtain ⟨s2_7, rfl⟩ := hrep.kind 7 rfl (kind_stmtQ x2 7 rfl)
      obtain ⟨p2_8, n2_8, c2_8, rfl⟩ := hrep.kind 8 rfl (kind_stmtQ x2 8 rfl)
      obtain ⟨i2_9, rfl⟩ := hrep.kind 9 rfl (kind_stmtQ x2 9 rfl)
      obtain ⟨p2_10, n2_10, c2_10, rfl⟩ := hrep.kind 10 rfl (kind_stmtQ x2 10 rfl)
      obtain ⟨i2_11, rfl⟩ := hrep.kind 11 rfl (kind_stmtQ x2 11 rfl)
      obtain ⟨p2_12, n2_12, c2_12, rfl⟩ := hrep.kind 12 rfl (kind_stmtQ x2 12 rfl)
      obtain ⟨p2_13, n2_13, c2_13, rfl⟩ := hrep.kind 13 rfl (kind_stmtQ x2 13 rfl)
      obtain ⟨p2_14, n2_14, c2_14, rfl⟩ := hrep.kind 14 rfl (kind_stmtQ x2 14 rfl)
      obtain ⟨p2_15, n2_15, c2_15, rfl⟩ := hrep.kind 15 rfl (kind_stmtQ x2 15 rfl)
      obtain ⟨i2_16, rfl⟩ := hrep.kind 16 rfl (kind_stmtQ x2 16 rfl)
      have hT : Fr [c.R, w.heap.size + 1] w1 w2 := Fr.trans (by repeat' (first | with_reducible exact Fr.refl _ _ | with_reducible refine Fr.setCell ?_ (Or.inl ?_) _ | with_reducible refine Fr.alloc ?_ _ | with_reducible refine Fr.drewN ?_ _ | with_reducible refine Fr.drew ?_ | (simp; done))) hf
      have HD2 : Hid (Blk w2 (w.heap.size + 1) 75 #[.int .i64 i2_0, .string s2_1, .slice p2_2 n2_2 c2_2, .slice p2_3 n2_3 c2_3, .int .i64 i2_4, .string s2_5, .string s2_6, .string s2_7, .slice p2_8 n2_8 c2_8, .int .i64 i2_9, .slice p2_10 n2_10 c2_10, .int .i64 i2_11, .slice p2_12 n2_12 c2_12, .slice p2_13 n2_13 c2_13, .slice p2_14 n2_14 c2_14, .slice p2_15 n2_15 c2_15, .int .i64 i2_16]) := Lib.hid hDn
      have HB2 : Hid (Blk w2 (w.heap.size) 75 #[.int .i64 0, .string ⟨#[]⟩, .slice none 0 0, .slice none 0 0, .int .i64 0, .string ⟨#[]⟩, .string ⟨#[]⟩, .string ⟨#[]⟩, .slice none 0 0, .int .i64 0, .slice none 0 0, .int .i64 0, .slice none 0 0, .slice none 0 0, .slice none 0 0, .slice none 0 0, .int .i64 0]) := Lib.hid (HB1.out.keep hT (by simp; omega))
      have hV2 : Rep w2 (fun k => w.heap.size + 3 ≤ k) _ _ := hrep.mono (fun k hk _ => ⟨by (try simp at hk); omega, rfl⟩)
      have HV2 := Lib.hid hV2
      have HI2 := Lib.hid hi
      have HF2 := Lib.hid (HF1.out.join hT (by simp))
      have hz2 := hf.size
      try simp at hz2
      clear hT hf hi hrep hV2 hDn
      go_wp2_with (first | (refine wpList_load_row rfl 75 _ rfl (w.heap.size + 1) rfl 75 #[.int .i64 i2_0, .string s2_1, .slice p2_2 n2_2 c2_2, .slice p2_3 n2_3 c2_3, .int .i64 i2_4, .string s2_5, .string s2_6, .string s2_7, .slice p2_8 n2_8 c2_8, .int .i64 i2_9, .slice p2_10 n2_10 c2_10, .int .i64 i2_11, .slice p2_12 n2_12 c2_12, .slice p2_13 n2_13 c2_13, .slice p2_14 n2_14 c2_14, .slice p2_15 n2_15 c2_15, .int .i64 i2_16] (0, 0) _ HD2.out Tryz.underlying75 rfl stmt_size ?_) | (refine wpList_store_row rfl 75 _ _ rfl w.heap.size #[.int .i64 i2_0, .string s2_1, .slice p2_2 n2_2 c2_2, .slice p2_3 n2_3 c2_3, .int .i64 i2_4, .string s2_5, .string s2_6, .string s2_7, .slice p2_8 n2_8 c2_8, .int .i64 i2_9, .slice p2_10 n2_10 c2_10, .int .i64 i2_11, .slice p2_12 n2_12 c2_12, .slice p2_13 n2_13 c2_13, .slice p2_14 n2_14 c2_14, .slice p2_15 n2_15 c2_15, .int .i64 i2_16] rfl rfl 75 _ HB2.out stmt_size rfl (by simp [Value.oneCell']) ?_))
      have hfs : Fr [w.heap.size] w2 (w2.setRow w.heap.size #[.int .i64 i2_0, .string s2_1, .slice p2_2 n2_2 c2_2, .slice p2_3 n2_3 c2_3, .int .i64 i2_4, .string s2_5, .string s2_6, .string s2_7, .slice p2_8 n2_8 c2_8, .int .i64 i2_9, .slice p2_10 n2_10 c2_10, .int .i64 i2_11, .slice p2_12 n2_12 c2_12, .slice p2_13 n2_13 c2_13, .slice p2_14 n2_14 c2_14, .slice p2_15 n2_15 c2_15, .int .i64 i2_16]) := fr_setRow _ _ _
      have hbs := setRow_heap w2 w.heap.size _ #[.int .i64 i2_0, .string s2_1, .slice p2_2 n2_2 c2_2, .slice p2_3 n2_3 c2_3, .int .i64 i2_4, .string s2_5, .string s2_6, .string s2_7, .slice p2_8 n2_8 c2_8, .int .i64 i2_9, .slice p2_10 n2_10 c2_10, .int .i64 i2_11, .slice p2_12 n2_12 c2_12, .slice p2_13 n2_13 c2_13, .slice p2_14 n2_14 c2_14, .slice p2_15 n2_15 c2_15, .int .i64 i2_16] 75 (0, 0) HB2.out
      refine bodyPost_ret (v := .agg #[.int .i64 i2_0, .string s2_1, .slice p2_2 n2_2 c2_2, .slice p2_3 n2_3 c2_3, .int .i64 i2_4, .string s2_5, .string s2_6, .string s2_7, .slice p2_8 n2_8 c2_8, .int .i64 i2_9, .slice p2_10 n2_10 c2_10, .int .i64 i2_11, .slice p2_12 n2_12 c2_12, .slice p2_13 n2_13 c2_13, .slice p2_14 n2_14 c2_14, .slice p2_15 n2_15 c2_15, .int .i64 i2_16]) (results_cell_row (p := 2) rfl _ _ w.heap.size 75 #[.int .i64 i2_0, .string s2_1, .slice p2_2 n2_2 c2_2, .slice p2_3 n2_3 c2_3, .int .i64 i2_4, .string s2_5, .string s2_6, .string s2_7, .slice p2_8 n2_8 c2_8, .int .i64 i2_9, .slice p2_10 n2_10 c2_10, .int .i64 i2_11, .slice p2_12 n2_12 c2_12, .slice p2_13 n2_13 c2_13, .slice p2_14 n2_14 c2_14, .slice p2_15 n2_15 c2_15, .int .i64 i2_16] (0, 0) _ rfl hbs Tryz.underlying75 rfl stmt_size) rfl ?_
      exact RP.ok (by simp only [Px.stmtF, bind, Px.Rd.bind, offset_res, if_true, if_false, Bool.false_eq_true, Px.wordR, HKS.out, if_neg HK2.out, Px.take, hq2.out] <;> rfl) (HF2.out.join (X := [w.heap.size]) (hfs.mono (fun k _ hk => by simp at hk; simp [hk])) (by simp)) (HI2.out.fr (X := [w.heap.size]) H.out hfs (by simp)) ⟨[.int .i64 i2_0, .string s2_1, .slice p2_2 n2_2 c2_2, .slice p2_3 n2_3 c2_3, .int .i64 i2_4, .string s2_5, .string s2_6, .string s2_7, .slice p2_8 n2_8 c2_8, .int .i64 i2_9, .slice p2_10 n2_10 c2_10, .int .i64 i2_11, .slice p2_12 n2_12 c2_12, .slice p2_13 n2_13 c2_13, .slice p2_14 n2_14 c2_14, .slice p2_15 n2_15 c2_15, .int .i64 i2_16], rfl, rep_own (b := w.heap.size) HV2.out (X := [w.heap.size]) hfs (by simp) (by omega)⟩
    · go_wp2_with fail
      exact ⟨rfl, RP.bad (by simp only [Px.stmtF, bind, Px.Rd.bind, offset_res, if_true, if_false, Bool.false_eq_true, Px.wordR, HKS.out, if_neg HK2.out, Px.take, hq2.out]) (HF1.out.join (Fr.trans (by repeat' (first | with_reducible exact Fr.refl _ _ | with_reducible refine Fr.setCell ?_ (Or.inl ?_) _ | with_reducible refine Fr.alloc ?_ _ | with_reducible refine Fr.drewN ?_ _ | with_reducible refine Fr.drew ?_ | (simp; done))) hf) (by simp)) hi⟩

theorem stmt_any (c : Ctx) (n : Nat) (hty : Reads c 87 n (okAgg typeQ) (Px.typeF c.size n)) : ∀ m, m ≤ n → Reads c 115 m (okAgg stmtQ) (Px.stmtF c.size n m)
  | 0, _ => fun ts w h hm => absurd hm (Nat.not_lt_zero _)
  | m + 1, hmn => fun ts w h hm => by
    have ih := stmt_any c n hty m (by omega)
    by_cases hf : Px.formOf (Px.word ts) = 2
    · exact stmt_set c n m ts w h hty (by omega) hf
    · exact stmt_found c n m ts w h hty ih (by omega) (by omega) hf
theorem function_any (c : Ctx) (off : Nat) (ts : List Tk) (w : World) (h : Inv c ts w) (n : Nat) (hm : ts.length < n) :
    Calls Tryz.prog 103 #[.pointer (some ⟨c.R, 0, none⟩), .int .i64 off] w (RP c w (okAgg funcQ) (Px.function c.size n off ts)) :=
  function_gen c off ts w h n n (Px.stmtF c.size n n) (type_any c n) (stmt_any c n (type_any c n) n (Nat.le_refl _)) (shr_stmtF _ _ _) (strict_stmtF _ _ _) hm hm
end Go.Proofs.YtefihbhcdocgfaaGreatDoor
