/-
  The walk of the reader of statements.
-/
import Derived.Test.YtefihbhcdocgfaaGreatDoorZGF9
import Derived.Laws.EntriesVeiled
import Derived.Deep.DeepCutAuto
import Derived.Deep.RegionHeld3
set_option linter.unusedVariables false
set_option linter.unusedSimpArgs false
set_option linter.unusedSectionVars false

namespace Go.Proofs.YtefihbhcdocgfaaGreatDoor
open Go.RowKit Go.Lib
open Lx (Tk)
open Px (Txt TyE VarD DataD TraitD BoundD ImplD ArgD ExprD StmtD ArmD FuncD ModD)

theorem stmt_size : (Tryz.prog.info? 75).map (·.size) = some 17 := by kernel_rfl
theorem fr_setRow (w : World) (g : Nat) (cs : Array Value) : Fr [g] w (w.setRow g cs) := ⟨rfl, rfl, rfl, by simp, fun k _ hk => setRow_other w g k cs (by simpa using hk)⟩
theorem zero_stmt (w : World) : (zeroValue 129).run Tryz.prog w = .ok (formV 0) w := by unfold formV; rw [if_pos rfl]; kernel_rfl
theorem forms_look (c : Ctx) (ts : List Tk) (w : World) (h : Inv c ts w) {t : Txt} (ht : t.length ≤ 20000) :
    (Instr.lookup 95 (.map (some c.Sb)) (.string ⟨t.toArray⟩) true).run Tryz.prog w = .ok (.tuple #[formV (kindAt t), .bool (!(Px.formOf t == 2))]) w := by
  obtain ⟨k, D, hown, hat⟩ := h.forms
  obtain ⟨v, ps, hrun, hv⟩ := hown.look_ok keyed9 Tryz.underlying95 (zero_stmt _) (formElem_mk 0 (by decide)) (kl := .string t) (WideMaps.keyOf_string_mk Tryz.underlying9 (size_le t ht))
  rw [show ((0 : Nat) : Int) = 0 from rfl, (hat t).1] at hv
  obtain ⟨j, hj, rfl⟩ := formElem_inv hv
  rw [hrun, (hat t).2]
  rw [show j = kindAt t by omega]
theorem stmt_cell {c : Ctx} {ts : List Tk} {w : World} (h : Inv c ts w) : w.cell? ⟨c.R, 3, none⟩ = some (.map (some c.Sb)) := by
  obtain ⟨tv, hb, _⟩ := h.reader
  exact hb.cell 3
theorem lookup_mem {t : Txt} {v : Nat} : ∀ {l : List (Txt × Nat)}, l.lookup t = some v → v ∈ l.map (·.2)
  | [], h => by cases h
  | (a, b) :: l, h => by
    rw [List.lookup_cons] at h
    split at h
    · cases h; simp
    · exact List.mem_cons_of_mem _ (lookup_mem h)
theorem formOf_kinds (t : Txt) : Px.formOf t = 2 ∨ Px.formOf t ∈ ([1, 3, 4, 5, 6, 7, 8, 9, 10, 11, 12, 13] : List Nat) := by
  unfold Px.formOf
  cases h : Px.forms.lookup t with
  | none => exact .inl rfl
  | some v => exact .inr (lookup_mem h)
theorem word_len {c : Ctx} {ts : List Tk} {w : World} (h : Inv c ts w) : (Px.word ts).length ≤ 20000 := by
  cases ts with
  | nil => simp [Px.word]
  | cons t r => exact h.words t (by simp)

set_option maxRecDepth 100000 in
set_option maxHeartbeats 1600000 in
theorem stmt_set (c : Ctx) (n m : Nat) (ts : List Tk) (w : World) (h : Inv c ts w) (hty : Reads c 87 n (okAgg typeQ) (Px.typeF c.size n)) (hm : ts.length < n) (hset : Px.formOf (Px.word ts) = 2) :
    Calls Tryz.prog 115 #[.pointer (some ⟨c.R, 0, none⟩)] w (RP c w (okAgg stmtQ) (Px.stmtF c.size n (m + 1) ts)) := by
  have HTY : Hid (Reads c 87 n (okAgg typeQ) (Px.typeF c.size n)) := Lib.hid hty
  clear hty
  have HFO := Lib.hid hset
  have HFB : Hid ((!(Px.formOf (Px.word ts) == 2)) = false) := Lib.hid (by rw [hset]; rfl)
  have HKA : Hid (kindAt (Px.word ts) = 0) := Lib.hid (by unfold kindAt; rw [if_pos hset])
  have HW := Lib.hid (word_len h)
  clear hset
  have H := Lib.hid h
  have HR0 := H.out.lt.1
  clear h
  go_enter Tryz.func115, Tryz.ntmps115
  go_wp2_with fail
  refine (offset_any c ts _ (by exact H.out.fr (X := []) H.out (by repeat' (first | with_reducible exact Fr.refl _ _ | with_reducible refine Fr.setCell ?_ (Or.inl ?_) _ | with_reducible refine Fr.alloc ?_ _ | with_reducible refine Fr.drewN ?_ _ | with_reducible refine Fr.drew ?_ | (simp; done))) (by simp))).mono ?_
  rintro e w' ⟨rfl, rfl⟩
  go_upto_region 2 with fail
  obtain ⟨w0, hw0⟩ : ∃ w0, w0 = (w.alloc (.cells #[.int .i64 0, .string ⟨#[]⟩, .slice none 0 0, .slice none 0 0, .int .i64 0, .string ⟨#[]⟩, .string ⟨#[]⟩, .string ⟨#[]⟩, .slice none 0 0, .int .i64 0, .slice none 0 0, .int .i64 0, .slice none 0 0, .slice none 0 0, .slice none 0 0, .slice none 0 0, .int .i64 0] 75)).alloc (.cells #[.int .i64 0, .string ⟨#[]⟩, .slice none 0 0, .slice none 0 0, .int .i64 0, .string ⟨#[]⟩, .string ⟨#[]⟩, .string ⟨#[]⟩, .slice none 0 0, .int .i64 0, .slice none 0 0, .int .i64 0, .slice none 0 0, .slice none 0 0, .slice none 0 0, .slice none 0 0, .int .i64 (offOf c.size ts)] 75) := ⟨_, rfl⟩
  have HI0 : Hid (Inv c ts w0) := Lib.hid (by rw [hw0]; exact (H.out.alloc _).alloc _)
  have HF0 : Hid (Fr [c.R] w w0) := Lib.hid (by rw [hw0]; exact ((Fr.refl _ _).alloc _).alloc _)
  have HB0 : Hid (Blk w0 (w.heap.size) 75 #[.int .i64 0, .string ⟨#[]⟩, .slice none 0 0, .slice none 0 0, .int .i64 0, .string ⟨#[]⟩, .string ⟨#[]⟩, .string ⟨#[]⟩, .slice none 0 0, .int .i64 0, .slice none 0 0, .int .i64 0, .slice none 0 0, .slice none 0 0, .slice none 0 0, .slice none 0 0, .int .i64 0]) := Lib.hid (by rw [hw0]; exact (Blk.new _ _ _).alloc _)
  have HD0 : Hid (Blk w0 (w.heap.size + 1) 75 #[.int .i64 0, .string ⟨#[]⟩, .slice none 0 0, .slice none 0 0, .int .i64 0, .string ⟨#[]⟩, .string ⟨#[]⟩, .string ⟨#[]⟩, .slice none 0 0, .int .i64 0, .slice none 0 0, .int .i64 0, .slice none 0 0, .slice none 0 0, .slice none 0 0, .slice none 0 0, .int .i64 (offOf c.size ts)]) := Lib.hid (by rw [hw0]; exact Blk.new_at (by simp))
  have hz0 : w0.heap.size = w.heap.size + 2 := by rw [hw0]; simp
  have hz0a : w0.heap.size ≤ w.heap.size + 2 := by omega
  have hz0b : w.heap.size + 2 ≤ w0.heap.size := by omega
  have HZ0 := Lib.hid hz0
  rw [← hw0]
  have hR3 := stmt_cell HI0.out
  have hRlt := HI0.out.lt.1
  have hl1 := forms_look c ts w0.drew HI0.out.drew HW.out
  have hl2 := forms_look c ts (w0.alloc (.cells #[.int .i64 0, .nilFunc] 129)).drew (HI0.out.alloc _).drew HW.out
  simp only [HFB.out, HKA.out] at hl1 hl2
  have hwd1 := word_any c ts w0.drew HI0.out.drew
  have hwd2 := word_any c ts (w0.alloc (.cells #[.int .i64 0, .nilFunc] 129)).drew (HI0.out.alloc _).drew
  have HWD1 := Lib.hid hwd1
  have HWD2 := Lib.hid hwd2
  clear hw0 hz0 hwd1 hwd2
  unfold formV at hl1 hl2
  go_cut [4, 5] (fun s4 s5 wx => s4 = .pointer (some ⟨w0.heap.size, 0, none⟩) ∧ s5 = .bool false ∧ wx = (w0.alloc (.cells #[.int .i64 0, .nilFunc] 129)).drew)
  case first =>
    go_region_held3 (fun w' => w'.cell? ⟨c.R, 3, none⟩ = some (.map (some c.Sb))) (go_keep) (first | (go_at_call 95; refine HWD1.out.mono ?_; rintro e w' ⟨rfl, rfl⟩) | (go_at_call 95; refine HWD2.out.mono ?_; rintro e w' ⟨rfl, rfl⟩))
    all_goals (try go_wp2_with fail)
    all_goals (go_meet; exact ⟨rfl, rfl, rfl⟩)
  case rest =>
    obtain ⟨rfl, rfl, rfl⟩ := hcut
    clear hl1 hl2 hR3
    go_wp2_with fail
    refine (set_any c (offOf c.size ts) ts _ (by exact HI0.out.fr (X := [w.heap.size + 1]) H.out (by repeat' (first | with_reducible exact Fr.refl _ _ | with_reducible refine Fr.setCell ?_ (Or.inl ?_) _ | with_reducible refine Fr.alloc ?_ _ | with_reducible refine Fr.drewN ?_ _ | with_reducible refine Fr.drew ?_ | (simp; done))) (by simp)) (w.heap.size + 1) (H.out.apart (by simp)) (by exact Blk.drew (Blk.alloc HD0.out _)) n HTY.out (by omega)).mono ?_
    rintro e w1 hp
    rcases hp.cases with ⟨x1, ts1, cs1, hq1, hf, hi, rfl, hDn, hrep⟩ | ⟨ts1, hq1, hf, hi, rfl⟩
    · clear hp
      unfold okCells at hrep
      obtain ⟨y1_0, y1_1, y1_2, y1_3, y1_4, y1_5, y1_6, y1_7, y1_8, y1_9, y1_10, y1_11, y1_12, y1_13, y1_14, y1_15, y1_16, rfl⟩ := cells_17 (hrep.len.trans (len_stmtQ x1))
      obtain ⟨i1_0, rfl⟩ := hrep.kind 0 rfl (kind_stmtQ x1 0 rfl)
      obtain ⟨s1_1, rfl⟩ := hrep.kind 1 rfl (kind_stmtQ x1 1 rfl)
      obtain ⟨p1_2, n1_2, c1_2, rfl⟩ := hrep.kind 2 rfl (kind_stmtQ x1 2 rfl)
      obtain ⟨p1_3, n1_3, c1_3, rfl⟩ := hrep.kind 3 rfl (kind_stmtQ x1 3 rfl)
      obtain ⟨i1_4, rfl⟩ := hrep.kind 4 rfl (kind_stmtQ x1 4 rfl)
      obtain ⟨s1_5, rfl⟩ := hrep.kind 5 rfl (kind_stmtQ x1 5 rfl)
      obtain ⟨s1_6, rfl⟩ := hrep.kind 6 rfl (kind_stmtQ x1 6 rfl)
      obtain ⟨s1_7, rfl⟩ := hrep.kind 7 rfl (kind_stmtQ x1 7 rfl)
      obtain ⟨p1_8, n1_8, c1_8, rfl⟩ := hrep.kind 8 rfl (kind_stmtQ x1 8 rfl)
      obtain ⟨i1_9, rfl⟩ := hrep.kind 9 rfl (kind_stmtQ x1 9 rfl)
      obtain ⟨p1_10, n1_10, c1_10, rfl⟩ := hrep.kind 10 rfl (kind_stmtQ x1 10 rfl)
      obtain ⟨i1_11, rfl⟩ := hrep.kind 11 rfl (kind_stmtQ x1 11 rfl)
      obtain ⟨p1_12, n1_12, c1_12, rfl⟩ := hrep.kind 12 rfl (kind_stmtQ x1 12 rfl)
      obtain ⟨p1_13, n1_13, c1_13, rfl⟩ := hrep.kind 13 rfl (kind_stmtQ x1 13 rfl)
      obtain ⟨p1_14, n1_14, c1_14, rfl⟩ := hrep.kind 14 rfl (kind_stmtQ x1 14 rfl)
      obtain ⟨p1_15, n1_15, c1_15, rfl⟩ := hrep.kind 15 rfl (kind_stmtQ x1 15 rfl)
      obtain ⟨i1_16, rfl⟩ := hrep.kind 16 rfl (kind_stmtQ x1 16 rfl)
      have hT : Fr [c.R, w.heap.size + 1] w0 w1 := Fr.trans (by repeat' (first | with_reducible exact Fr.refl _ _ | with_reducible refine Fr.setCell ?_ (Or.inl ?_) _ | with_reducible refine Fr.alloc ?_ _ | with_reducible refine Fr.drewN ?_ _ | with_reducible refine Fr.drew ?_ | (simp; done))) hf
      have HD1 : Hid (Blk w1 (w.heap.size + 1) 75 #[.int .i64 i1_0, .string s1_1, .slice p1_2 n1_2 c1_2, .slice p1_3 n1_3 c1_3, .int .i64 i1_4, .string s1_5, .string s1_6, .string s1_7, .slice p1_8 n1_8 c1_8, .int .i64 i1_9, .slice p1_10 n1_10 c1_10, .int .i64 i1_11, .slice p1_12 n1_12 c1_12, .slice p1_13 n1_13 c1_13, .slice p1_14 n1_14 c1_14, .slice p1_15 n1_15 c1_15, .int .i64 i1_16]) := Lib.hid hDn
      have HB1 : Hid (Blk w1 (w.heap.size) 75 #[.int .i64 0, .string ⟨#[]⟩, .slice none 0 0, .slice none 0 0, .int .i64 0, .string ⟨#[]⟩, .string ⟨#[]⟩, .string ⟨#[]⟩, .slice none 0 0, .int .i64 0, .slice none 0 0, .int .i64 0, .slice none 0 0, .slice none 0 0, .slice none 0 0, .slice none 0 0, .int .i64 0]) := Lib.hid (HB0.out.keep hT (by simp; omega))
      have hV1 : Rep w1 (fun k => w.heap.size + 3 ≤ k) _ _ := hrep.mono (fun k hk _ => ⟨by (try simp at hk); omega, rfl⟩)
      have HV1 := Lib.hid hV1
      have HI1 := Lib.hid hi
      have HF1 := Lib.hid (HF0.out.join hT (by simp))
      have hz1 := hf.size
      try simp at hz1
      clear hT hf hi hrep hV1 hDn
      go_wp2_with (first | (refine wpList_load_row rfl 75 _ rfl (w.heap.size + 1) rfl 75 #[.int .i64 i1_0, .string s1_1, .slice p1_2 n1_2 c1_2, .slice p1_3 n1_3 c1_3, .int .i64 i1_4, .string s1_5, .string s1_6, .string s1_7, .slice p1_8 n1_8 c1_8, .int .i64 i1_9, .slice p1_10 n1_10 c1_10, .int .i64 i1_11, .slice p1_12 n1_12 c1_12, .slice p1_13 n1_13 c1_13, .slice p1_14 n1_14 c1_14, .slice p1_15 n1_15 c1_15, .int .i64 i1_16] (0, 0) _ HD1.out Tryz.underlying75 rfl stmt_size ?_) | (refine wpList_store_row rfl 75 _ _ rfl w.heap.size #[.int .i64 i1_0, .string s1_1, .slice p1_2 n1_2 c1_2, .slice p1_3 n1_3 c1_3, .int .i64 i1_4, .string s1_5, .string s1_6, .string s1_7, .slice p1_8 n1_8 c1_8, .int .i64 i1_9, .slice p1_10 n1_10 c1_10, .int .i64 i1_11, .slice p1_12 n1_12 c1_12, .slice p1_13 n1_13 c1_13, .slice p1_14 n1_14 c1_14, .slice p1_15 n1_15 c1_15, .int .i64 i1_16] rfl rfl 75 _ HB1.out stmt_size rfl (by simp [Value.oneCell']) ?_))
      have hfs : Fr [w.heap.size] w1 (w1.setRow w.heap.size #[.int .i64 i1_0, .string s1_1, .slice p1_2 n1_2 c1_2, .slice p1_3 n1_3 c1_3, .int .i64 i1_4, .string s1_5, .string s1_6, .string s1_7, .slice p1_8 n1_8 c1_8, .int .i64 i1_9, .slice p1_10 n1_10 c1_10, .int .i64 i1_11, .slice p1_12 n1_12 c1_12, .slice p1_13 n1_13 c1_13, .slice p1_14 n1_14 c1_14, .slice p1_15 n1_15 c1_15, .int .i64 i1_16]) := fr_setRow _ _ _
      have hbs := setRow_heap w1 w.heap.size _ #[.int .i64 i1_0, .string s1_1, .slice p1_2 n1_2 c1_2, .slice p1_3 n1_3 c1_3, .int .i64 i1_4, .string s1_5, .string s1_6, .string s1_7, .slice p1_8 n1_8 c1_8, .int .i64 i1_9, .slice p1_10 n1_10 c1_10, .int .i64 i1_11, .slice p1_12 n1_12 c1_12, .slice p1_13 n1_13 c1_13, .slice p1_14 n1_14 c1_14, .slice p1_15 n1_15 c1_15, .int .i64 i1_16] 75 (0, 0) HB1.out
      refine bodyPost_ret (v := .agg #[.int .i64 i1_0, .string s1_1, .slice p1_2 n1_2 c1_2, .slice p1_3 n1_3 c1_3, .int .i64 i1_4, .string s1_5, .string s1_6, .string s1_7, .slice p1_8 n1_8 c1_8, .int .i64 i1_9, .slice p1_10 n1_10 c1_10, .int .i64 i1_11, .slice p1_12 n1_12 c1_12, .slice p1_13 n1_13 c1_13, .slice p1_14 n1_14 c1_14, .slice p1_15 n1_15 c1_15, .int .i64 i1_16]) (results_cell_row (p := 2) rfl _ _ w.heap.size 75 #[.int .i64 i1_0, .string s1_1, .slice p1_2 n1_2 c1_2, .slice p1_3 n1_3 c1_3, .int .i64 i1_4, .string s1_5, .string s1_6, .string s1_7, .slice p1_8 n1_8 c1_8, .int .i64 i1_9, .slice p1_10 n1_10 c1_10, .int .i64 i1_11, .slice p1_12 n1_12 c1_12, .slice p1_13 n1_13 c1_13, .slice p1_14 n1_14 c1_14, .slice p1_15 n1_15 c1_15, .int .i64 i1_16] (0, 0) _ rfl hbs Tryz.underlying75 rfl stmt_size) rfl ?_
      exact RP.ok (by simp only [Px.stmtF, bind, Px.Rd.bind, offset_res, if_true, if_false, Bool.false_eq_true, Px.wordR, if_pos HFO.out, hq1.out] <;> rfl) (HF1.out.join (X := [w.heap.size]) (hfs.mono (fun k _ hk => by simp at hk; simp [hk])) (by simp)) (HI1.out.fr (X := [w.heap.size]) H.out hfs (by simp)) ⟨[.int .i64 i1_0, .string s1_1, .slice p1_2 n1_2 c1_2, .slice p1_3 n1_3 c1_3, .int .i64 i1_4, .string s1_5, .string s1_6, .string s1_7, .slice p1_8 n1_8 c1_8, .int .i64 i1_9, .slice p1_10 n1_10 c1_10, .int .i64 i1_11, .slice p1_12 n1_12 c1_12, .slice p1_13 n1_13 c1_13, .slice p1_14 n1_14 c1_14, .slice p1_15 n1_15 c1_15, .int .i64 i1_16], rfl, rep_own (b := w.heap.size) HV1.out (X := [w.heap.size]) hfs (by simp) (by omega)⟩
    · go_wp2_with fail
      exact ⟨rfl, RP.bad (by simp only [Px.stmtF, bind, Px.Rd.bind, offset_res, if_true, if_false, Bool.false_eq_true, Px.wordR, if_pos HFO.out, hq1.out]) (HF0.out.join (Fr.trans (by repeat' (first | with_reducible exact Fr.refl _ _ | with_reducible refine Fr.setCell ?_ (Or.inl ?_) _ | with_reducible refine Fr.alloc ?_ _ | with_reducible refine Fr.drewN ?_ _ | with_reducible refine Fr.drew ?_ | (simp; done))) hf) (by simp)) hi⟩
end Go.Proofs.YtefihbhcdocgfaaGreatDoor
