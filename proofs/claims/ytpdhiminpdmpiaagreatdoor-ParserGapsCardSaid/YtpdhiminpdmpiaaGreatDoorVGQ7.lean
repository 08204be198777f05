/-
 The reference's list of facts: statements are added.
-/
import Derived.Test.YtpdhiminpdmpiaaGreatDoorVY
set_option linter.unusedVariables false
set_option linter.unusedSimpArgs false
set_option linter.unusedSectionVars false
set_option linter.unusedVariables false
set_option linter.unusedSimpArgs false
set_option linter.unusedSectionVars false
namespace Go.Proofs.YtpdhiminpdmpiaaGreatDoor
open Go.RowKit Go.Lib
open Px (Txt TyE VarD DataD TraitD BoundD ImplD ArgD ExprD StmtD ArmD FuncD ModD)
set_option maxRecDepth 100000 in
set_option maxHeartbeats 3200000 in
/-- stmts: adds statements -/
theorem sts_step {F B : Nat} {off : Bool} (m : Nat) (ihS : ∀ l, SizeOf.sizeOf l < m → StsC F B off l) (ihF : ∀ l, SizeOf.sizeOf l < m → FnsC F B off l) (l : List StmtD) (hm : SizeOf.sizeOf l < m + 1) : StsC F B off l := by
 intro w0 w acc sv h hs hlen
 obtain ⟨ps, cs, rfl⟩ := hs.shape
 rw [stsF_fl, List.length_append, nF_len] at hlen
 have H0 := Lib.hid h.2
 have H : Hid (Got F B off w w acc) := Lib.hid ⟨h.1, FrF.refl _ _⟩
 have HS := Lib.hid hs
 have hFw := h.lt
 clear h hs
 go_enter Tryz.func164, Tryz.ntmps164
 go_wp2_with fail
 refine ((H.out.alloc _).number (n := l.length) (by exact Blk.new _ _ _) (by omega) (by omega)).mono ?_
 rintro e w1 ⟨hG1, hF1, rfl⟩
 have HG1 := Lib.hid hG1
 clear hG1 hF1
 go_wp2_with fail
 go_loopw [4] (fun vi wr => ∃ i : Nat, vi = .int .i64 i ∧ i ≤ l.length ∧ Got F B off w wr ((acc ++ nF l.length) ++ (l.take i).flatMap (fS off))) (fun vi _ => l.length - (RowKit.intOf vi).toNat)
 case atStart => exact ⟨0, rfl, by omega, by simpa using HG1.out⟩
 case round =>
  obtain ⟨i, rfl, hi, hG⟩ := hrel
  by_cases hlt : i < l.length
  ·obtain ⟨t, hx⟩ : ∃ x, l[i]? = some x := ⟨l[i], List.getElem?_eq_getElem hlt⟩
   obtain ⟨g, cap, cur, ds, e, hblk, hgF, hcap, hmax, hrep, hcell⟩ := (HS.out.keep hG.2).at len_stmtQ hx
   simp only [Value.slice.injEq] at e
   obtain ⟨rfl, _, rfl⟩ := e
   obtain ⟨k, x, nm, ty, ex, th, el, ar, fn, o, rfl⟩ : ∃ k x nm ty ex th el ar fn o, t = StmtD.mk k x nm ty ex th el ar fn o := by cases t; exact ⟨_, _, _, _, _, _, _, _, _, _, rfl⟩
   obtain ⟨p1, c1v, p2, c2v, p3, c3v, p4, c4v, p5, c5v, p6, c6v, p7, c7v, p8, c8v, rfl, h1, h2, h3, h4, h5, h6, h7, h8⟩ := stmt_full hrep
   obtain ⟨z1, z2, z3, z4⟩ := size_st hx
   have hml := hmax
   unfold maxLen at hml
   have k0 := (hblk.cell _).trans (hcell 0 (by omega))
   have k1 := (hblk.cell _).trans (hcell 1 (by omega))
   have k2 := (hblk.cell _).trans (hcell 2 (by omega))
   have k3 := (hblk.cell _).trans (hcell 3 (by omega))
   have k4 := (hblk.cell _).trans (hcell 4 (by omega))
   have k5 := (hblk.cell _).trans (hcell 5 (by omega))
   have k6 := (hblk.cell _).trans (hcell 6 (by omega))
   have k7 := (hblk.cell _).trans (hcell 7 (by omega))
   have k8 := (hblk.cell _).trans (hcell 8 (by omega))
   have k9 := (hblk.cell _).trans (hcell 9 (by omega))
   have k10 := (hblk.cell _).trans (hcell 10 (by omega))
   have k11 := (hblk.cell _).trans (hcell 11 (by omega))
   have k12 := (hblk.cell _).trans (hcell 12 (by omega))
   have k13 := (hblk.cell _).trans (hcell 13 (by omega))
   have k14 := (hblk.cell _).trans (hcell 14 (by omega))
   have k15 := (hblk.cell _).trans (hcell 15 (by omega))
   have k16 := (hblk.cell _).trans (hcell 16 (by omega))
   simp only [scells, List.getElem?_cons_succ, List.getElem?_cons_zero, Nat.add_zero] at k0 k1 k2 k3 k4 k5 k6 k7 k8 k9 k10 k11 k12 k13 k14 k15 k16
   have hgl := hblk.lt
   have hfl := fl_len (fS off) hx
   obtain ⟨ac, hac⟩ : ∃ ac, ac = (acc ++ nF l.length) ++ (l.take i).flatMap (fS off) := ⟨_, rfl⟩
   have hal : ac.length + (fS off (.mk k x nm ty ex th el ar fn o)).length ≤ 900000 := by rw [hac]; simp only [List.length_append, nF_len] at hfl ⊢; omega
   simp only [fS_mk, List.length_append, nF_len] at hal
   rw [← hac] at hG
   have hd : decide ((i : Int) < (l.length : Int)) = true := by simp; omega
   have hd' : decide (i < l.length) = true := by simp; omega
   have hdI : (i : Int) < (l.length : Int) := by omega
   have hFr := hG.lt
   have HGq : Hid (Got F B off w (wr.alloc (.cells #[.int .i64 k, .string ⟨x.toArray⟩, .slice p1 nm.length c1v, .slice p2 ty.length c2v, .int .i64 ex.kind, .string ⟨ex.op.toArray⟩, .string ⟨ex.name.toArray⟩, .string ⟨ex.variant.toArray⟩, .slice p3 ex.names.length c3v, .int .i64 ex.num, .slice p4 ex.type.length c4v, .int .i64 ex.off, .slice p5 th.length c5v, .slice p6 el.length c6v, .slice p7 ar.length c7v, .slice p8 fn.length c8v, .int .i64 o] 72)) ac) := Lib.hid (hG.alloc _)
   have HFq : Hid (FrF F wr (wr.alloc (.cells #[.int .i64 k, .string ⟨x.toArray⟩, .slice p1 nm.length c1v, .slice p2 ty.length c2v, .int .i64 ex.kind, .string ⟨ex.op.toArray⟩, .string ⟨ex.name.toArray⟩, .string ⟨ex.variant.toArray⟩, .slice p3 ex.names.length c3v, .int .i64 ex.num, .slice p4 ex.type.length c4v, .int .i64 ex.off, .slice p5 th.length c5v, .slice p6 el.length c6v, .slice p7 ar.length c7v, .slice p8 fn.length c8v, .int .i64 o] 72))) := Lib.hid ((FrF.refl F wr).alloc _)
   have HQ : Hid (Blk (wr.alloc (.cells #[.int .i64 k, .string ⟨x.toArray⟩, .slice p1 nm.length c1v, .slice p2 ty.length c2v, .int .i64 ex.kind, .string ⟨ex.op.toArray⟩, .string ⟨ex.name.toArray⟩, .string ⟨ex.variant.toArray⟩, .slice p3 ex.names.length c3v, .int .i64 ex.num, .slice p4 ex.type.length c4v, .int .i64 ex.off, .slice p5 th.length c5v, .slice p6 el.length c6v, .slice p7 ar.length c7v, .slice p8 fn.length c8v, .int .i64 o] 72)) wr.heap.size 72 #[.int .i64 k, .string ⟨x.toArray⟩, .slice p1 nm.length c1v, .slice p2 ty.length c2v, .int .i64 ex.kind, .string ⟨ex.op.toArray⟩, .string ⟨ex.name.toArray⟩, .string ⟨ex.variant.toArray⟩, .slice p3 ex.names.length c3v, .int .i64 ex.num, .slice p4 ex.type.length c4v, .int .i64 ex.off, .slice p5 th.length c5v, .slice p6 el.length c6v, .slice p7 ar.length c7v, .slice p8 fn.length c8v, .int .i64 o]) := Lib.hid (Blk.new _ _ _)
   have hqz : (wr.alloc (.cells #[.int .i64 k, .string ⟨x.toArray⟩, .slice p1 nm.length c1v, .slice p2 ty.length c2v, .int .i64 ex.kind, .string ⟨ex.op.toArray⟩, .string ⟨ex.name.toArray⟩, .string ⟨ex.variant.toArray⟩, .slice p3 ex.names.length c3v, .int .i64 ex.num, .slice p4 ex.type.length c4v, .int .i64 ex.off, .slice p5 th.length c5v, .slice p6 el.length c6v, .slice p7 ar.length c7v, .slice p8 fn.length c8v, .int .i64 o] 72)).heap.size = wr.heap.size + 1 := by simp
   have R1 := Lib.hid (h1.keep HFq.out)
   have R2 := Lib.hid (h2.keep HFq.out)
   have R3 := Lib.hid (h3.keep HFq.out)
   have R4 := Lib.hid (h4.keep HFq.out)
   have R5 := Lib.hid (h5.keep HFq.out)
   have R6 := Lib.hid (h6.keep HFq.out)
   have R7 := Lib.hid (h7.keep HFq.out)
   have R8 := Lib.hid (h8.keep HFq.out)
   have HX := Lib.hid hx
   have HAC := Lib.hid hac
   clear hG hx hac hblk hcell hfl hrep h1 h2 h3 h4 h5 h6 h7 h8
   go_wp2_with fail
   obtain ⟨wq, hwq⟩ : ∃ wq, wq = wr.alloc (.cells #[.int .i64 k, .string ⟨x.toArray⟩, .slice p1 nm.length c1v, .slice p2 ty.length c2v, .int .i64 ex.kind, .string ⟨ex.op.toArray⟩, .string ⟨ex.name.toArray⟩, .string ⟨ex.variant.toArray⟩, .slice p3 ex.names.length c3v, .int .i64 ex.num, .slice p4 ex.type.length c4v, .int .i64 ex.off, .slice p5 th.length c5v, .slice p6 el.length c6v, .slice p7 ar.length c7v, .slice p8 fn.length c8v, .int .i64 o] 72) := ⟨_, rfl⟩
   obtain ⟨b, hb⟩ : ∃ b, b = wr.heap.size := ⟨_, rfl⟩
   rw [← hwq] at HGq HFq HQ hqz R1 R2 R3 R4 R5 R6 R7 R8
   rw [← hb] at HQ hqz hFr
   have hbF : b ≠ F := by omega
   try rw [← hwq]
   try rw [← hb]
   try rw [← hqz]
   clear hwq hb hgl k0 k1 k2 k3 k4 k5 k6 k7 k8 k9 k10 k11 k12 k13 k14 k15 k16
   have hFq := HGq.out.lt
   refine ((HGq.out.alloc _).number3 (n := k) (m := ex.kind) (k := ex.num) (by exact Blk.new _ _ _) (by omega) (by (try simp only [List.length_append, nF_len]); omega)).mono ?_
   rintro e w1 ⟨hG1, hF1, rfl⟩
   have HF1 := Lib.hid (((FrF.refl _ wq).alloc (.cells #[.int .i64 k, .int .i64 ex.kind, .int .i64 ex.num] 3)).trans hF1)
   have HG1 := Lib.hid hG1
   have HQ_1 := Lib.hid (HF1.out.keep HQ.out farF.h5 hbF)
   have hl_HQ_1 := HQ_1.out.lt
   clear hG1 hF1 
   have q1 := (HQ_1.out.cell 1 : w1.cell? ⟨b, 1, none⟩ = some (.string ⟨x.toArray⟩))
   have q5 := (HQ_1.out.cell 5 : w1.cell? ⟨b, 5, none⟩ = some (.string ⟨ex.op.toArray⟩))
   have q6 := (HQ_1.out.cell 6 : w1.cell? ⟨b, 6, none⟩ = some (.string ⟨ex.name.toArray⟩))
   have q7 := (HQ_1.out.cell 7 : w1.cell? ⟨b, 7, none⟩ = some (.string ⟨ex.variant.toArray⟩))
   go_wp2_with fail
   refine ((HG1.out.alloc _).text (StrV.new (l := [x, ex.op, ex.name, ex.variant]) (by exact HG1.out.lt) (by rfl) (by rfl)) (by (try simp only [List.length_append, nF_len]); omega)).mono ?_
   rintro e w2 ⟨hG2, hF2, rfl⟩
   have HF2 := Lib.hid ((HF1.out.alloc (.cells #[.string ⟨x.toArray⟩, .string ⟨ex.op.toArray⟩, .string ⟨ex.name.toArray⟩, .string ⟨ex.variant.toArray⟩] 9)).trans hF2)
   have HG2 := Lib.hid hG2
   have HQ_2 := Lib.hid (HF2.out.keep HQ.out farF.h5 hbF)
   have hl_HQ_2 := HQ_2.out.lt
   clear hG2 hF2 q1 q5 q6 q7 hl_HQ_1
   have q2 := (HQ_2.out.cell 2 : w2.cell? ⟨b, 2, none⟩ = some (.slice p1 nm.length c1v))
   go_wp2_with fail
   refine (HG2.out.text (R1.out.keep HF2.out) (by (try simp only [List.length_append, nF_len]); omega)).mono ?_
   rintro e w3 ⟨hG3, hF3, rfl⟩
   have HF3 := Lib.hid (HF2.out.trans hF3)
   have HG3 := Lib.hid hG3
   have HQ_3 := Lib.hid (HF3.out.keep HQ.out farF.h5 hbF)
   have hl_HQ_3 := HQ_3.out.lt
   clear hG3 hF3 q2 hl_HQ_2
   have q8 := (HQ_3.out.cell 8 : w3.cell? ⟨b, 8, none⟩ = some (.slice p3 ex.names.length c3v))
   go_wp2_with fail
   refine (HG3.out.text (R3.out.keep HF3.out) (by (try simp only [List.length_append, nF_len]); omega)).mono ?_
   rintro e w4 ⟨hG4, hF4, rfl⟩
   have HF4 := Lib.hid (HF3.out.trans hF4)
   have HG4 := Lib.hid hG4
   have HQ_4 := Lib.hid (HF4.out.keep HQ.out farF.h5 hbF)
   have hl_HQ_4 := HQ_4.out.lt
   clear hG4 hF4 q8 hl_HQ_3
   have q3 := (HQ_4.out.cell 3 : w4.cell? ⟨b, 3, none⟩ = some (.slice p2 ty.length c2v))
   go_wp2_with fail
   refine (HG4.out.types (R2.out.keep HF4.out) (by (try simp only [List.length_append, nF_len]); omega)).mono ?_
   rintro e w5 ⟨hG5, hF5, rfl⟩
   have HF5 := Lib.hid (HF4.out.trans hF5)
   have HG5 := Lib.hid hG5
   have HQ_5 := Lib.hid (HF5.out.keep HQ.out farF.h5 hbF)
   have hl_HQ_5 := HQ_5.out.lt
   clear hG5 hF5 q3 hl_HQ_4
   have q10 := (HQ_5.out.cell 10 : w5.cell? ⟨b, 10, none⟩ = some (.slice p4 ex.type.length c4v))
   go_wp2_with fail
   refine (HG5.out.types (R4.out.keep HF5.out) (by (try simp only [List.length_append, nF_len]); omega)).mono ?_
   rintro e w6 ⟨hG6, hF6, rfl⟩
   have HF6 := Lib.hid (HF5.out.trans hF6)
   have HG6 := Lib.hid hG6
   have HQ_6 := Lib.hid (HF6.out.keep HQ.out farF.h5 hbF)
   have hl_HQ_6 := HQ_6.out.lt
   clear hG6 hF6 q10 hl_HQ_5
   have q12 := (HQ_6.out.cell 12 : w6.cell? ⟨b, 12, none⟩ = some (.slice p5 th.length c5v))
   go_wp2_with fail
   refine (ihS th (by omega) _ _ _ _ HG6.out (R5.out.keep HF6.out) (by (try simp only [List.length_append, nF_len]); omega)).mono ?_
   rintro e w7 ⟨hG7, hF7, rfl⟩
   have HF7 := Lib.hid (HF6.out.trans hF7)
   have HG7 := Lib.hid hG7
   have HQ_7 := Lib.hid (HF7.out.keep HQ.out farF.h5 hbF)
   have hl_HQ_7 := HQ_7.out.lt
   clear hG7 hF7 q12 hl_HQ_6
   have q13 := (HQ_7.out.cell 13 : w7.cell? ⟨b, 13, none⟩ = some (.slice p6 el.length c6v))
   go_wp2_with fail
   refine (ihS el (by omega) _ _ _ _ HG7.out (R6.out.keep HF7.out) (by (try simp only [List.length_append, nF_len]); omega)).mono ?_
   rintro e w8 ⟨hG8, hF8, rfl⟩
   have HF8 := Lib.hid (HF7.out.trans hF8)
   have HG8 := Lib.hid hG8
   have HQ_8 := Lib.hid (HF8.out.keep HQ.out farF.h5 hbF)
   have hl_HQ_8 := HQ_8.out.lt
   clear hG8 hF8 q13 hl_HQ_7
   have q14 := (HQ_8.out.cell 14 : w8.cell? ⟨b, 14, none⟩ = some (.slice p7 ar.length c7v))
   go_wp2_with fail
   refine ((HG8.out.alloc _).number (n := ar.length) (by exact Blk.new _ _ _) (by have := HG8.out.lt; omega) (by (try simp only [List.length_append, nF_len]); omega)).mono ?_
   rintro e w9 ⟨hG9, hF9, rfl⟩
   have HF9 := Lib.hid ((HF8.out.alloc (.cells #[.int .i64 ar.length] 3)).trans hF9)
   have HG9 := Lib.hid hG9
   have HQ_9 := Lib.hid (HF9.out.keep HQ.out farF.h5 hbF)
   have hl_HQ_9 := HQ_9.out.lt
   clear hG9 hF9 q14 hl_HQ_8
   go_wp2_with fail
   obtain ⟨am, HGa, hame⟩ : ∃ am, Hid (Got F B off w w9 am) ∧ am = ac ++ (nF k ++ (nF ex.kind ++ nF ex.num)) ++ tF [x, ex.op, ex.name, ex.variant] ++ tF nm ++ tF ex.names ++ typesF off ty ++ typesF off ex.type ++ stsF off th ++ stsF off el ++ nF ar.length := ⟨_, HG9, rfl⟩
   have hal2 : am.length + ((ar.flatMap (fM off)).length + ((fnsF off fn).length + ((oF off o).length + (oF off ex.off).length))) ≤ 900000 := by rw [hame]; simp only [List.length_append, nF_len]; omega
   have HAM := Lib.hid hame
   clear hame
   go_loopw [6] (fun vj wr => ∃ j : Nat, vj = .int .i64 j ∧ j ≤ ar.length ∧ Got F B off w wr (am ++ (ar.take j).flatMap (fM off)) ∧ FrF F wq wr) (fun vj _ => ar.length - (RowKit.intOf vj).toNat)
   case atStart => exact ⟨0, rfl, by omega, by simpa using HGa.out, HF9.out⟩
   case round =>
    obtain ⟨j, rfl, hj, hG, hF⟩ := hrel
    have HQi := Lib.hid (hF.keep HQ.out farF.h5 hbF)
    have q14 := (HQi.out.cell 14 : wr.cell? ⟨b, 14, none⟩ = some (.slice p7 ar.length c7v))
    have hl_HQi := HQi.out.lt
    by_cases hjl : j < ar.length
    ·obtain ⟨u, hy⟩ : ∃ x, ar[j]? = some x := ⟨ar[j], List.getElem?_eq_getElem hjl⟩
     obtain ⟨g2, cap2, cur2, ds2, e2, hblk2, hgF2, hcap2, hmax2, hrep2, hcell2⟩ := (R7.out.keep hF).at len_armQ hy
     simp only [Value.slice.injEq] at e2
     obtain ⟨rfl, _, rfl⟩ := e2
     obtain ⟨ax, an, ab, ao, rfl⟩ : ∃ ax an ab ao, u = ArmD.mk ax an ab ao := by cases u; exact ⟨_, _, _, _, rfl⟩
     obtain ⟨r1, d1v, r2, d2v, rfl, g1, g2s⟩ := arm_full hrep2
     have zz := size_am hy
     have hml2 := hmax2
     unfold maxLen at hml2
     have m0 := hcell2 0 (by omega)
     have m1 := hcell2 1 (by omega)
     have m2 := hcell2 2 (by omega)
     have m3 := hcell2 3 (by omega)
     simp only [List.getElem?_cons_succ, List.getElem?_cons_zero, Nat.add_zero] at m0 m1 m2 m3
     have M0 := Lib.hid m0
     have M1 := Lib.hid m1
     have M2 := Lib.hid m2
     have M3 := Lib.hid m3
     have hgl2 := hblk2.lt
     have hfl2 := fl_len (fM off) hy
     obtain ⟨aj, haj⟩ : ∃ aj, aj = am ++ (ar.take j).flatMap (fM off) := ⟨_, rfl⟩
     have hal3 : aj.length + (fM off (.mk ax an ab ao)).length ≤ 900000 := by rw [haj]; simp only [List.length_append] at hfl2 ⊢; omega
     simp only [fM_mk, List.length_append, nF_len] at hal3
     rw [← haj] at hG
     have hjd : decide ((j : Int) < (ar.length : Int)) = true := by simp; omega
     have hjd' : decide (j < ar.length) = true := by simp; omega
     have hjI : (j : Int) < (ar.length : Int) := by omega
     have hFi := hG.lt
     have HGi := Lib.hid hG
     have HFi := Lib.hid hF
     have HY := Lib.hid hy
     have HAJ := Lib.hid haj
     have HB2 := Lib.hid hblk2
     have G1 := Lib.hid g1
     have G2 := Lib.hid g2s
     clear hG hF hy haj hblk2 hcell2 hfl2 hrep2 g1 g2s m0 m1 m2 m3
     have m0 := (HB2.out.cell _).trans M0.out
     go_wp2_with fail
     refine ((HGi.out.alloc _).text (StrV.new (l := [ax]) (by exact hFi) (by rfl) (by rfl)) (by (try simp only [List.length_append, nF_len]); omega)).mono ?_
     rintro e w1 ⟨hG1, hF1, rfl⟩
     have HF1 := Lib.hid (((FrF.refl _ wr).alloc (.cells #[.string ⟨ax.toArray⟩] 9)).trans hF1)
     have HG1 := Lib.hid hG1
     have HB2_1 := Lib.hid (HF1.out.keep HB2.out farF.h6 hgF2)
     have hl_HB2_1 := HB2_1.out.lt
     have HQi_1 := Lib.hid (HF1.out.keep HQi.out farF.h5 hbF)
     have hl_HQi_1 := HQi_1.out.lt
     clear hG1 hF1 q14 m0
     have q14 := (HQi_1.out.cell 14 : w1.cell? ⟨b, 14, none⟩ = some (.slice (some ⟨g2, 0, none⟩) ar.length c7v))
     have m1 := (HB2_1.out.cell _).trans M1.out
     go_wp2_with fail
     refine (HG1.out.text (G1.out.keep HF1.out) (by (try simp only [List.length_append, nF_len]); omega)).mono ?_
     rintro e w2 ⟨hG2, hF2, rfl⟩
     have HF2 := Lib.hid (HF1.out.trans hF2)
     have HG2 := Lib.hid hG2
     have HB2_2 := Lib.hid (HF2.out.keep HB2.out farF.h6 hgF2)
     have hl_HB2_2 := HB2_2.out.lt
     have HQi_2 := Lib.hid (HF2.out.keep HQi.out farF.h5 hbF)
     have hl_HQi_2 := HQi_2.out.lt
     clear hG2 hF2 q14 m1 hl_HB2_1 hl_HQi_1
     have q14 := (HQi_2.out.cell 14 : w2.cell? ⟨b, 14, none⟩ = some (.slice (some ⟨g2, 0, none⟩) ar.length c7v))
     have m2 := (HB2_2.out.cell _).trans M2.out
     go_wp2_with fail
     refine (ihS ab (by omega) _ _ _ _ HG2.out (G2.out.keep HF2.out) (by (try simp only [List.length_append, nF_len]); omega)).mono ?_
     rintro e w3 ⟨hG3, hF3, rfl⟩
     have HF3 := Lib.hid (HF2.out.trans hF3)
     have HG3 := Lib.hid hG3
     have HB2_3 := Lib.hid (HF3.out.keep HB2.out farF.h6 hgF2)
     have hl_HB2_3 := HB2_3.out.lt
     have HQi_3 := Lib.hid (HF3.out.keep HQi.out farF.h5 hbF)
     have hl_HQi_3 := HQi_3.out.lt
     clear hG3 hF3 q14 m2 hl_HB2_2 hl_HQi_2
     have q14 := (HQi_3.out.cell 14 : w3.cell? ⟨b, 14, none⟩ = some (.slice (some ⟨g2, 0, none⟩) ar.length c7v))
     have m3 := (HB2_3.out.cell _).trans M3.out
     go_wp2_with fail
     refine (HG3.out.at ao (by (try simp only [List.length_append, nF_len]); omega)).mono ?_
     rintro e w4 ⟨hG4, hF4, rfl⟩
     have HF4 := Lib.hid (HF3.out.trans hF4)
     have HG4 := Lib.hid hG4
     have HB2_4 := Lib.hid (HF4.out.keep HB2.out farF.h6 hgF2)
     have hl_HB2_4 := HB2_4.out.lt
     have HQi_4 := Lib.hid (HF4.out.keep HQi.out farF.h5 hbF)
     have hl_HQi_4 := HQi_4.out.lt
     clear hG4 hF4 q14 m3 hl_HB2_3 hl_HQi_3
     go_wp2_with fail
     go_roundw
     case rel => exact ⟨j + 1, by go_num, by omega, by rw [fl_take _ HY.out, ← List.append_assoc, ← HAJ.out]; simpa only [fM_mk, List.append_assoc] using HG4.out, HFi.out.trans HF4.out⟩
     case measure => simp [RowKit.intOf]; omega
    ·obtain rfl : j = ar.length := by omega
     have hjd : decide ((ar.length : Int) < (ar.length : Int)) = false := by simp
     rw [List.take_length] at hG
     have HGi := Lib.hid hG
     have HFi := Lib.hid hF
     clear hG hF
     have q15 := (HQi.out.cell 15 : wr.cell? ⟨b, 15, none⟩ = some (.slice p8 fn.length c8v))
     go_wp2_with fail
     refine (ihF fn (by omega) _ _ _ _ HGi.out (R8.out.keep HFi.out) (by (try simp only [List.length_append, nF_len]); omega)).mono ?_
     rintro e w21 ⟨hG21, hF21, rfl⟩
     have HF21 := Lib.hid (HFi.out.trans hF21)
     have HG21 := Lib.hid hG21
     have HQ_21 := Lib.hid (HF21.out.keep HQ.out farF.h5 hbF)
     have hl_HQ_21 := HQ_21.out.lt
     clear hG21 hF21 q14 q15 hl_HQi
     have q16 := (HQ_21.out.cell 16 : w21.cell? ⟨b, 16, none⟩ = some (.int .i64 o))
     go_wp2_with fail
     refine (HG21.out.at o (by (try simp only [List.length_append, nF_len]); omega)).mono ?_
     rintro e w22 ⟨hG22, hF22, rfl⟩
     have HF22 := Lib.hid (HF21.out.trans hF22)
     have HG22 := Lib.hid hG22
     have HQ_22 := Lib.hid (HF22.out.keep HQ.out farF.h5 hbF)
     have hl_HQ_22 := HQ_22.out.lt
     clear hG22 hF22 q16 hl_HQ_21
     have q11 := (HQ_22.out.cell 11 : w22.cell? ⟨b, 11, none⟩ = some (.int .i64 ex.off))
     go_wp2_with fail
     refine (HG22.out.at ex.off (by (try simp only [List.length_append, nF_len]); omega)).mono ?_
     rintro e w23 ⟨hG23, hF23, rfl⟩
     have HF23 := Lib.hid (HF22.out.trans hF23)
     have HG23 := Lib.hid hG23
     have HQ_23 := Lib.hid (HF23.out.keep HQ.out farF.h5 hbF)
     have hl_HQ_23 := HQ_23.out.lt
     clear hG23 hF23 q11 hl_HQ_22
     go_wp2_with fail
     go_roundw
     case rel => exact ⟨i + 1, by go_num, by omega, by rw [fl_take _ HX.out, ← List.append_assoc, ← HAC.out]; have e := HG23.out; rw [HAM.out] at e; simpa only [fS_mk, List.append_assoc] using e⟩
     case measure => simp [RowKit.intOf]; omega
  ·obtain rfl : i = l.length := by omega
   have hd : decide ((l.length : Int) < (l.length : Int)) = false := by simp
   have HG := Lib.hid hG
   clear hG
   go_wp2_with fail
   first | go_end0 | refine bodyPost_ret (results_none rfl _ _ _) rfl ?_
   have e := HG.out
   rw [List.take_length, List.append_assoc, ← stsF_fl] at e
   exact ⟨⟨e.1, H0.out.trans e.2⟩, e.2, rfl⟩
theorem both_lt {F B : Nat} {off : Bool} : ∀ m, (∀ l, SizeOf.sizeOf l < m → StsC F B off l) ∧ (∀ l, SizeOf.sizeOf l < m → FnsC F B off l) := by
 intro m
 induction m with
 | zero => exact ⟨fun _ h => by omega, fun _ h => by omega⟩
 | succ m ih => exact ⟨fun l h => sts_step m ih.1 ih.2 l h, fun l h => fns_step m ih.1 l h⟩
theorem fns_any {F B : Nat} {off : Bool} (l : List FuncD) : FnsC F B off l := (both_lt (SizeOf.sizeOf l + 1)).2 l (Nat.lt_succ_self _)
end Go.Proofs.YtpdhiminpdmpiaaGreatDoor
