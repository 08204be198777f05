/- part of the proof -/
import Derived.Test.YtcdlnhfgehhkcaaQ25
import Derived.Deep.RegionHeld3
import Derived.Deep.DeepCutAuto
set_option linter.unusedVariables false
set_option linter.unusedSimpArgs false
set_option linter.unusedSectionVars false
namespace Go.Proofs.Ytcdlnhfgehhkcaa
open Go.RowKit Go.Lib
open Un (kd nm ar size sizes same sames int' box' zero var par)
def IntC (b : Nat) (w : World) : Prop:=Blk w b 24 #[.int .i64 1,.int .i64 0,.slice none 0 0]
theorem IntC.keep0 {b : Nat} {w w' : World} (h : IntC b w) (hf : Fr [] w w') : IntC b w':=Blk.keep (X:=[]) h hf (by simp)
set_option maxRecDepth 100000 in
set_option maxHeartbeats 6400000 in
theorem head_any (w : World) : Calls Try.prog 8 #[] w (LookP true w):=by
 obtain ⟨j0,hj0,jz0,jz1,jz2⟩:=info_parts info_ty
 have hms : ∀ w1 : World,(Instr.makeSlice 22 (.int .i64 2) (.int .i64 2)).run Try.prog w1 = .ok (.slice (some ⟨w1.heap.size,0,none⟩) 2 2) (w1.alloc (.cells (madeCells #[.int .i64 0,.int .i64 0,.slice none 0 0] (2 * 3)) 24)):=fun w1 => by
  have:=run_makeSlice w1 22 24 j0 _ Try.underlying22 hj0 jz0 .i64 .i64 2 2 (by omega) (Int.le_refl _) (by rw [jz1];simp) (by rw [jz2];decide) (by omega)
  rw [jz1] at this
  simpa [Value.cells] using this
 clear hj0 jz0 jz1 jz2
 go_enter Try.func8,Try.ntmps8
 go_wp2_with fail
 refine (int_any w).mono ?_
 rintro e w1 ⟨rfl,hf1⟩
 have HF1:=hid hf1
 clear hf1
 go_wp2_with fail
 obtain ⟨b,hb⟩ : ∃ b,b = w1.heap.size:=⟨_,rfl⟩
 obtain ⟨wA,hwA⟩ : ∃ wA,wA = (w1.alloc (.cells #[.int .i64 1,.int .i64 0,.slice none 0 0] 24)).alloc (.cells (madeCells #[.int .i64 0,.int .i64 0,.slice none 0 0] (2 * 3)) 24):=⟨_,rfl⟩
 have HI : Hid (IntC b wA):=hid (by rw [hwA,hb];exact (Blk.new _ _ _).alloc _)
 have HT : Hid (TysV wA (fun _ => True) [zero,zero] (.slice (some ⟨b + 1,0,none⟩) 2 2)):=hid (by
  have h1:=(ArrV.made (w1.alloc (.cells #[.int .i64 1,.int .i64 0,.slice none 0 0] 24)) (fun _ => True) 2).tysV (N':=fun _ => True) (by simp) (fun _ _ _ => trivial) trivial
  rw [show (w1.alloc (.cells #[.int .i64 1,.int .i64 0,.slice none 0 0] 24)).heap.size = b + 1 from by rw [hb];simp] at h1
  rw [hwA]
  exact h1)
 have HFA : Hid (Fr [] w wA):=hid (by rw [hwA];exact (HF1.out.alloc _).alloc _)
 simp only [← hb]
 rw [← hwA]
 clear hwA hb hms HF1
 have HU1 : Hid (Un.unify [zero,zero].length (.mk 3 0 [.mk 9 0 []]) (.mk 3 0 [.mk 1 0 []]) = some (.ok [int',zero])):=hid Un.h_u1
 have HU2 : Hid (Un.unify [zero,zero].length (.mk 9 0 []) (.mk 9 1 []) = some (.ok [zero,var 0])):=hid Un.h_u2
 have HU3 : Hid (Un.unify [zero,zero].length (.mk 3 0 [.mk 9 0 []]) (.mk 4 0 [.mk 9 0 []]) = some (.error 8)):=hid Un.h_u3
 have HU4 : Hid (Un.unify [zero,zero].length (.mk 9 0 []) (.mk 3 0 [.mk 9 0 []]) = some (.error 8)):=hid Un.h_u4
 have HU5 : Hid (Un.unify [zero,zero].length (.mk 9 2 []) (.mk 1 0 []) = some (.error 1)):=hid Un.h_u5
 have HN : Hid (Fr [] wA wA.drew):=hid ((Fr.refl [] _).drew)
 have HK : Hid (∀ wx,Fr [] wA wx → wx.cell? ⟨b,0,none⟩ = some (.int .i64 1) ∧ wx.cell? ⟨b,1,none⟩ = some (.int .i64 0) ∧ wx.cell? ⟨b,2,none⟩ = some (.slice none 0 0) ∧ b < wx.heap.size):=hid (fun wx hf => ⟨(HI.out.keep0 hf).cell 0,(HI.out.keep0 hf).cell 1,(HI.out.keep0 hf).cell 2,Blk.lt (HI.out.keep0 hf)⟩)
 go_region_held3 (fun w' => w'.cell? ⟨b,0,none⟩ = some (.int .i64 1) ∧ w'.cell? ⟨b,1,none⟩ = some (.int .i64 0) ∧ w'.cell? ⟨b,2,none⟩ = some (.slice none 0 0) ∧ b < w'.heap.size) (exact HK.out _ HN.out)
  (first | (go_at_call 30;(with_reducible refine (v_any _ _).mono ?_);rintro e wn ⟨rfl,hf⟩;(try have T1:=hid (TyV.keep0 T1.out hf));(try have T2:=hid (TyV.keep0 T2.out hf));(try have T3:=hid (TyV.keep0 T3.out hf));have HN:=hid (HN.out.trans hf);clear hf) | (go_at_call 33;(with_reducible refine (box_lit _ _ _ _ _ _ _ (leafV 9 0 _)).mono ?_);rintro e wn ⟨hf,pn,cn,rfl,hty⟩;(try have T1:=hid (TyV.keep0 T1.out hf));(try have T2:=hid (TyV.keep0 T2.out hf));(try have T3:=hid (TyV.keep0 T3.out hf));have T1:=hid hty;have HN:=hid (HN.out.trans hf);clear hf hty) | (go_at_call 33;(with_reducible refine (box_lit _ _ _ _ _ _ _ (leafV 1 0 _)).mono ?_);rintro e wn ⟨hf,pn,cn,rfl,hty⟩;(try have T1:=hid (TyV.keep0 T1.out hf));(try have T2:=hid (TyV.keep0 T2.out hf));(try have T3:=hid (TyV.keep0 T3.out hf));have T2:=hid hty;have HN:=hid (HN.out.trans hf);clear hf hty) | (go_at_call 11;(with_reducible refine (unify_any (fun _ => True) [zero,zero] _ (.mk 3 0 [.mk 9 0 []]) (.mk 3 0 [.mk 1 0 []]) _ _ _ (TysV.keep0 HT.out HN.out) (by simp) (by decide) (by decide) Un.h_wf T1.out T2.out (by decide +kernel) (by decide +kernel) _ HU1.out).mono ?_);rintro e wn ⟨hf,v6,rfl,hv6⟩;have HVA:=hid (TysV.weak (N':=fun _ => True) hv6 (fun _ _ _ => trivial));have HN:=hid (HN.out.trans hf);obtain ⟨pa,ca,rfl⟩:=hv6.shape;clear hf hv6))
 clear HK
 obtain ⟨wB,hwW⟩ : ∃ v : World,v = wn:=⟨_,rfl⟩
 subst hwW
 have HFA:=hid (HFA.out.trans HN.out)
 have HI:=hid (HI.out.keep0 HN.out)
 have HT:=hid (TysV.keep0 HT.out HN.out)
 clear HN
 clear T1 T2
 go_wp2_with fail
 refine (v_any 0 _).mono ?_
 rintro e wn ⟨rfl,hf⟩
 have HN:=hid hf
 clear hf
 go_wp2_with fail
 refine (v_any 1 _).mono ?_
 rintro e wn ⟨rfl,hf⟩
 have HN:=hid (HN.out.trans hf)
 clear hf
 go_wp2_with fail
 refine (unify_any (fun _ => True) [zero,zero] _ (.mk 9 0 []) (.mk 9 1 []) _ _ _ (TysV.keep0 HT.out HN.out) (by simp) (by decide) (by decide) Un.h_wf (leafV 9 0 _) (leafV 9 1 _) (by decide +kernel) (by decide +kernel) _ HU2.out).mono ?_
 rintro e wn ⟨hf,v6,rfl,hv6⟩
 have HVB:=hid (TysV.weak (N':=fun _ => True) hv6 (fun _ _ _ => trivial))
 obtain ⟨pb,cb,rfl⟩:=hv6.shape
 clear hv6
 have HN:=hid (HN.out.trans hf)
 clear hf
 obtain ⟨wC,hwW⟩ : ∃ v : World,v = wn:=⟨_,rfl⟩
 subst hwW
 have HFA:=hid (HFA.out.trans HN.out)
 have HI:=hid (HI.out.keep0 HN.out)
 have HT:=hid (TysV.keep0 HT.out HN.out)
 have HVA:=hid (TysV.keep0 HVA.out HN.out)
 clear HN
 go_wp2_with fail
 refine (v_any 0 _).mono ?_
 rintro e wn ⟨rfl,hf⟩
 have HN:=hid hf
 clear hf
 go_wp2_with fail
 refine (box_lit _ _ _ _ _ _ _ (leafV 9 0 _)).mono ?_
 rintro e wn ⟨hf,p1,c1,rfl,hty⟩
 have T1:=hid hty
 clear hty
 have HN:=hid (HN.out.trans hf)
 clear hf
 go_wp2_with fail
 refine (v_any 0 _).mono ?_
 rintro e wn ⟨rfl,hf⟩
 have T1:=hid (TyV.keep0 T1.out hf)
 have HN:=hid (HN.out.trans hf)
 clear hf
 go_wp2_with fail
 refine (of_lit 4 _ _ _ _ _ _ _ (leafV 9 0 _)).mono ?_
 rintro e wn ⟨hf,p2,c2,rfl,hty⟩
 have T2:=hid hty
 have T1:=hid (TyV.keep0 T1.out hf)
 clear hty
 have HN:=hid (HN.out.trans hf)
 clear hf
 go_wp2_with fail
 refine (unify_any (fun _ => True) [zero,zero] _ (.mk 3 0 [.mk 9 0 []]) (.mk 4 0 [.mk 9 0 []]) _ _ _ (TysV.keep0 HT.out HN.out) (by simp) (by decide) (by decide) Un.h_wf T1.out T2.out (by decide +kernel) (by decide +kernel) _ HU3.out).mono ?_
 rintro e wn ⟨hf,rfl⟩
 have HN:=hid (HN.out.trans hf)
 clear hf
 obtain ⟨wD,hwW⟩ : ∃ v : World,v = wn:=⟨_,rfl⟩
 subst hwW
 have HFA:=hid (HFA.out.trans HN.out)
 have HI:=hid (HI.out.keep0 HN.out)
 have HT:=hid (TysV.keep0 HT.out HN.out)
 have HVA:=hid (TysV.keep0 HVA.out HN.out)
 have HVB:=hid (TysV.keep0 HVB.out HN.out)
 clear HN
 clear T1 T2
 go_wp2_with fail
 refine (v_any 0 _).mono ?_
 rintro e wn ⟨rfl,hf⟩
 have HN:=hid hf
 clear hf
 go_wp2_with fail
 refine (v_any 0 _).mono ?_
 rintro e wn ⟨rfl,hf⟩
 have HN:=hid (HN.out.trans hf)
 clear hf
 go_wp2_with fail
 refine (box_lit _ _ _ _ _ _ _ (leafV 9 0 _)).mono ?_
 rintro e wn ⟨hf,p3,c3,rfl,hty⟩
 have T1:=hid hty
 clear hty
 have HN:=hid (HN.out.trans hf)
 clear hf
 go_wp2_with fail
 refine (unify_any (fun _ => True) [zero,zero] _ (.mk 9 0 []) (.mk 3 0 [.mk 9 0 []]) _ _ _ (TysV.keep0 HT.out HN.out) (by simp) (by decide) (by decide) Un.h_wf (leafV 9 0 _) T1.out (by decide +kernel) (by decide +kernel) _ HU4.out).mono ?_
 rintro e wn ⟨hf,rfl⟩
 have HN:=hid (HN.out.trans hf)
 clear hf
 obtain ⟨wE,hwW⟩ : ∃ v : World,v = wn:=⟨_,rfl⟩
 subst hwW
 have HFA:=hid (HFA.out.trans HN.out)
 have HI:=hid (HI.out.keep0 HN.out)
 have HT:=hid (TysV.keep0 HT.out HN.out)
 have HVA:=hid (TysV.keep0 HVA.out HN.out)
 have HVB:=hid (TysV.keep0 HVB.out HN.out)
 clear HN
 clear T1
 go_wp2_with fail
 have HN : Hid (Fr [] wE wE.drew):=hid ((Fr.refl [] _).drew)
 have HK : Hid (∀ wx,Fr [] wE wx → wx.cell? ⟨b,0,none⟩ = some (.int .i64 1) ∧ wx.cell? ⟨b,1,none⟩ = some (.int .i64 0) ∧ wx.cell? ⟨b,2,none⟩ = some (.slice none 0 0) ∧ b < wx.heap.size):=hid (fun wx hf => ⟨(HI.out.keep0 hf).cell 0,(HI.out.keep0 hf).cell 1,(HI.out.keep0 hf).cell 2,Blk.lt (HI.out.keep0 hf)⟩)
 go_region_held3 (fun w' => w'.cell? ⟨b,0,none⟩ = some (.int .i64 1) ∧ w'.cell? ⟨b,1,none⟩ = some (.int .i64 0) ∧ w'.cell? ⟨b,2,none⟩ = some (.slice none 0 0) ∧ b < w'.heap.size) (exact HK.out _ HN.out)
  (first | (go_at_call 30;(with_reducible refine (v_any _ _).mono ?_);rintro e wn ⟨rfl,hf⟩;(try have T1:=hid (TyV.keep0 T1.out hf));(try have T2:=hid (TyV.keep0 T2.out hf));(try have T3:=hid (TyV.keep0 T3.out hf));have HN:=hid (HN.out.trans hf);clear hf) | (go_at_call 11;(with_reducible refine (unify_any (fun _ => True) [zero,zero] _ (.mk 9 2 []) (.mk 1 0 []) _ _ _ (TysV.keep0 HT.out HN.out) (by simp) (by decide) (by decide) Un.h_wf (leafV 9 2 _) (leafV 1 0 _) (by decide +kernel) (by decide +kernel) _ HU5.out).mono ?_);rintro e wn ⟨hf,rfl⟩;have HN:=hid (HN.out.trans hf);clear hf))
 clear HK
 obtain ⟨wF,hwW⟩ : ∃ v : World,v = wn:=⟨_,rfl⟩
 subst hwW
 have HFA:=hid (HFA.out.trans HN.out)
 have HI:=hid (HI.out.keep0 HN.out)
 have HT:=hid (TysV.keep0 HT.out HN.out)
 have HVA:=hid (TysV.keep0 HVA.out HN.out)
 have HVB:=hid (TysV.keep0 HVB.out HN.out)
 clear HN
 have HM1 : Hid (∀ (wx : World) (cs ds : List Value),TyV wx (fun _ => True) (.mk 3 0 [.mk 5 0 []]) cs → TyV wx (fun _ => True) (.mk 3 0 [.mk 3 0 [.mk 1 0 []]]) ds → Calls Try.prog 13 #[.agg cs.toArray,.agg ds.toArray,.int .i64 1] wx (MatchP (some [box' int']) wx)):=hid (fun wx cs ds h1 h2 => Un.h_m1 ▸ match_any (fun _ => True) (box' (par 0)) (box' (box' int')) 1 (by decide) (by decide +kernel) (by decide +kernel) (fun i hi => by rw [Un.h_pars,List.mem_singleton] at hi;subst hi;rfl) (by decide +kernel) cs ds wx h1 h2)
 have HM2 : Hid (∀ (wx : World) (cs ds : List Value),TyV wx (fun _ => True) (.mk 3 0 [.mk 5 0 []]) cs → TyV wx (fun _ => True) (.mk 1 0 []) ds → Calls Try.prog 13 #[.agg cs.toArray,.agg ds.toArray,.int .i64 1] wx (MatchP none wx)):=hid (fun wx cs ds h1 h2 => Un.h_m2 ▸ match_any (fun _ => True) (box' (par 0)) int' 1 (by decide) (by decide +kernel) (by decide +kernel) (fun i hi => by rw [Un.h_pars,List.mem_singleton] at hi;subst hi;rfl) (by decide +kernel) cs ds wx h1 h2)
 go_wp2_with fail
 have HN : Hid (Fr [] wF wF.drew):=hid ((Fr.refl [] _).drew)
 have HK : Hid (∀ wx,Fr [] wF wx → wx.cell? ⟨b,0,none⟩ = some (.int .i64 1) ∧ wx.cell? ⟨b,1,none⟩ = some (.int .i64 0) ∧ wx.cell? ⟨b,2,none⟩ = some (.slice none 0 0) ∧ b < wx.heap.size):=hid (fun wx hf => ⟨(HI.out.keep0 hf).cell 0,(HI.out.keep0 hf).cell 1,(HI.out.keep0 hf).cell 2,Blk.lt (HI.out.keep0 hf)⟩)
 go_region_held3 (fun w' => w'.cell? ⟨b,0,none⟩ = some (.int .i64 1) ∧ w'.cell? ⟨b,1,none⟩ = some (.int .i64 0) ∧ w'.cell? ⟨b,2,none⟩ = some (.slice none 0 0) ∧ b < w'.heap.size) (exact HK.out _ HN.out)
  (first | (go_at_call 23;(with_reducible refine (p_any _ _).mono ?_);rintro e wn ⟨rfl,hf⟩;(try have T1:=hid (TyV.keep0 T1.out hf));(try have T2:=hid (TyV.keep0 T2.out hf));(try have T3:=hid (TyV.keep0 T3.out hf));have HN:=hid (HN.out.trans hf);clear hf) | (go_at_call 33;(with_reducible refine (box_lit _ _ _ _ _ _ _ (leafV 5 0 _)).mono ?_);rintro e wn ⟨hf,pn,cn,rfl,hty⟩;(try have T1:=hid (TyV.keep0 T1.out hf));(try have T2:=hid (TyV.keep0 T2.out hf));(try have T3:=hid (TyV.keep0 T3.out hf));have T1:=hid hty;have HN:=hid (HN.out.trans hf);clear hf hty) | (go_at_call 33;(with_reducible refine (box_lit _ _ _ _ _ _ _ (leafV 1 0 _)).mono ?_);rintro e wn ⟨hf,pn,cn,rfl,hty⟩;(try have T1:=hid (TyV.keep0 T1.out hf));(try have T2:=hid (TyV.keep0 T2.out hf));(try have T3:=hid (TyV.keep0 T3.out hf));have T2:=hid hty;have HN:=hid (HN.out.trans hf);clear hf hty) | (go_at_call 33;(with_reducible refine (box_lit _ _ _ _ _ _ _ T2.out).mono ?_);rintro e wn ⟨hf,pn,cn,rfl,hty⟩;(try have T1:=hid (TyV.keep0 T1.out hf));(try have T2:=hid (TyV.keep0 T2.out hf));(try have T3:=hid (TyV.keep0 T3.out hf));have T3:=hid hty;have HN:=hid (HN.out.trans hf);clear hf hty) | (go_at_call 13;(with_reducible refine (HM1.out _ _ _ T1.out T3.out).mono ?_);rintro e wn ⟨hf,v6,rfl,hv6⟩;have HVM:=hid (TysV.weak (N':=fun _ => True) hv6 (fun _ _ _ => trivial));have HN:=hid (HN.out.trans hf);obtain ⟨pm,cm,rfl⟩:=hv6.shape;clear hf hv6))
 clear HK
 obtain ⟨wG,hwW⟩ : ∃ v : World,v = wn:=⟨_,rfl⟩
 subst hwW
 have HFA:=hid (HFA.out.trans HN.out)
 have HI:=hid (HI.out.keep0 HN.out)
 have HT:=hid (TysV.keep0 HT.out HN.out)
 have HVA:=hid (TysV.keep0 HVA.out HN.out)
 have HVB:=hid (TysV.keep0 HVB.out HN.out)
 clear HN
 clear T1 T2 T3
 go_wp2_with fail
 have HN : Hid (Fr [] wG wG.drew):=hid ((Fr.refl [] _).drew)
 have HK : Hid (∀ wx,Fr [] wG wx → wx.cell? ⟨b,0,none⟩ = some (.int .i64 1) ∧ wx.cell? ⟨b,1,none⟩ = some (.int .i64 0) ∧ wx.cell? ⟨b,2,none⟩ = some (.slice none 0 0) ∧ b < wx.heap.size):=hid (fun wx hf => ⟨(HI.out.keep0 hf).cell 0,(HI.out.keep0 hf).cell 1,(HI.out.keep0 hf).cell 2,Blk.lt (HI.out.keep0 hf)⟩)
 go_region_held3 (fun w' => w'.cell? ⟨b,0,none⟩ = some (.int .i64 1) ∧ w'.cell? ⟨b,1,none⟩ = some (.int .i64 0) ∧ w'.cell? ⟨b,2,none⟩ = some (.slice none 0 0) ∧ b < w'.heap.size) (exact HK.out _ HN.out)
  (first | (go_at_call 23;(with_reducible refine (p_any _ _).mono ?_);rintro e wn ⟨rfl,hf⟩;(try have T1:=hid (TyV.keep0 T1.out hf));(try have T2:=hid (TyV.keep0 T2.out hf));(try have T3:=hid (TyV.keep0 T3.out hf));have HN:=hid (HN.out.trans hf);clear hf) | (go_at_call 33;(with_reducible refine (box_lit _ _ _ _ _ _ _ (leafV 5 0 _)).mono ?_);rintro e wn ⟨hf,pn,cn,rfl,hty⟩;(try have T1:=hid (TyV.keep0 T1.out hf));(try have T2:=hid (TyV.keep0 T2.out hf));(try have T3:=hid (TyV.keep0 T3.out hf));have T1:=hid hty;have HN:=hid (HN.out.trans hf);clear hf hty) | (go_at_call 13;(with_reducible refine (HM2.out _ _ _ T1.out (leafV 1 0 _)).mono ?_);rintro e wn ⟨hf,rfl⟩;have HN:=hid (HN.out.trans hf);clear hf))
 clear HK
 obtain ⟨wH,hwW⟩ : ∃ v : World,v = wn:=⟨_,rfl⟩
 subst hwW
 have HFA:=hid (HFA.out.trans HN.out)
 have HI:=hid (HI.out.keep0 HN.out)
 have HT:=hid (TysV.keep0 HT.out HN.out)
 have HVA:=hid (TysV.keep0 HVA.out HN.out)
 have HVB:=hid (TysV.keep0 HVB.out HN.out)
 have HVM:=hid (TysV.keep0 HVM.out HN.out)
 clear HN
 clear T1
 have c0 : wH.cell? ⟨b,0,none⟩ = some (.int .i64 1):=HI.out.cell 0
 have c1 : wH.cell? ⟨b,1,none⟩ = some (.int .i64 0):=HI.out.cell 1
 have c2 : wH.cell? ⟨b,2,none⟩ = some (.slice none 0 0):=HI.out.cell 2
 have cl : b < wH.heap.size:=HI.out.lt
 have cl1 : b < wH.heap.size + 1:=by omega
 have cl2 : b < wH.heap.size + 1 + 1:=by omega
 have cl3 : b < wH.heap.size + 1 + 1 + 1:=by omega
 have cl4 : b < wH.heap.size + 1 + 1 + 1 + 1:=by omega
 have cl5 : b < wH.heap.size + 1 + 1 + 1 + 1 + 1:=by omega
 go_wp2_with fail
 have HSA : Hid (∀ (wx : World) (l l' : List Ty) (v v' : Value),TysV wx (fun _ => True) l v → TysV wx (fun _ => True) l' v' → Calls Try.prog 15 #[v,v'] wx (LookP (sames l l') wx)):=hid (fun wx l l' v v' h h' => rsameall_any _ _ l l' wx (fun a _ b _ cs ds w h h' => rsame_any _ _ (size a) a (Nat.le_refl _) b cs ds w h h') v v' h h')
 obtain ⟨z0,hz0⟩ : ∃ z,z = wH.heap.size:=⟨_,rfl⟩
 obtain ⟨wI0,hwI0⟩ : ∃ x,x = (((wH.alloc (.cells #[.string ⟨#[]⟩,.int .i64 0,.int .i64 1,.slice none 0 0,.int .i64 0] 61)).alloc (.cells #[.slice none 0 0,.slice none 0 0,.slice (some ⟨z0,0,none⟩) 1 1,.slice none 0 0,.slice none 0 0,.slice none 0 0,.slice none 0 0,.int .i64 0] 32)).alloc (.cells #[.int .i64 1,.int .i64 0,.slice none 0 0] 24)).alloc (.cells #[.int .i64 2,.int .i64 0,.slice (some ⟨z0 + 1 + 1,0,none⟩) 1 1] 24):=⟨_,rfl⟩
 obtain ⟨wI,hwI⟩ : ∃ x,x = wI0.alloc (.cells #[.int .i64 1,.int .i64 0,.slice none 0 0,.int .i64 0,.int .i64 0,.slice none 0 0] 24):=⟨_,rfl⟩
 have HFI0 : Hid (Fr [] wH wI0):=hid (by rw [hwI0];exact ((((Fr.refl _ _).alloc _).alloc _).alloc _).alloc _)
 have HPB : Hid (Blk wI0 (z0 + 1) 32 #[.slice none 0 0,.slice none 0 0,.slice (some ⟨z0,0,none⟩) 1 1,.slice none 0 0,.slice none 0 0,.slice none 0 0,.slice none 0 0,.int .i64 0]):=hid (by rw [hwI0,hz0];exact ((Blk.new_at (by simp)).alloc _).alloc _)
 have HDB : Hid (Blk wI0 z0 61 #[.string ⟨#[]⟩,.int .i64 0,.int .i64 1,.slice none 0 0,.int .i64 0]):=hid (by rw [hwI0,hz0];exact (((Blk.new _ _ _).alloc _).alloc _).alloc _)
 have HAB : Hid (Blk wI0 (z0 + 1 + 1) 24 #[.int .i64 1,.int .i64 0,.slice none 0 0]):=hid (by rw [hwI0,hz0];exact (Blk.new_at (by simp)).alloc _)
 have HTB : Hid (Blk wI0 (z0 + 1 + 1 + 1) 24 #[.int .i64 2,.int .i64 0,.slice (some ⟨z0 + 1 + 1,0,none⟩) 1 1]):=hid (by rw [hwI0,hz0];exact Blk.new_at (by simp))
 have HLB : Hid (Blk wI wI0.heap.size 24 #[.int .i64 1,.int .i64 0,.slice none 0 0,.int .i64 0,.int .i64 0,.slice none 0 0]):=hid (by rw [hwI];exact Blk.new _ _ _)
 have HFI1 : Hid (Fr [] wI0 wI):=hid (by rw [hwI];exact (Fr.refl _ _).alloc _)
 have HFI:=hid (HFI0.out.trans HFI1.out)
 have HL1 : Hid (TysV wI (fun _ => True) [int',zero] (.slice (some ⟨wI0.heap.size,0,none⟩) 2 2)):=hid (newTys (l:=[int',zero]) (by simp) trivial HLB.out (InN.app (leafV 1 0 _) (InN.app (cs:=[.int .i64 0,.int .i64 0,.slice none 0 0]) (ds:=[]) (leafV 0 0 _) (InN.mk_nil _ _))))
 have HTY : Hid (TyV wI0 (fun _ => True) (.mk 2 0 [int']) [.int .i64 2,.int .i64 0,.slice (some ⟨z0 + 1 + 1,0,none⟩) 1 1]):=hid (TyV.mk (newTys (l:=[int']) (by simp) trivial HAB.out (by rw [rowsQ_one];exact leafV 1 0 _)))
 have HPV : Hid (ProgV wI0 (fun _ => True) [1] [.slice none 0 0,.slice none 0 0,.slice (some ⟨z0,0,none⟩) 1 1,.slice none 0 0,.slice none 0 0,.slice none 0 0,.slice none 0 0,.int .i64 0]):=hid (by
  refine ⟨_,_,_,_,_,_,_,_,_,_,_,_,_,_,_,_,_,_,_,_,rfl,?_⟩
  unfold DatasV
  rw [InN]
  refine ⟨_,_,rfl,.inr ⟨z0,0,1,[.string ⟨#[]⟩,.int .i64 0,.int .i64 1,.slice none 0 0,.int .i64 0],rfl,by decide,by decide,by unfold maxLen;decide,trivial,HDB.out.lt,rfl,fun j hj => ?_,?_⟩,InN.mk_nil _ _⟩
  ·rw [Nat.zero_add,HDB.out.cell];simp
  ·rw [rowsQ_one]
   unfold qData
   simp only [InN]
   exact ⟨_,_,rfl,rfl,_,_,rfl,rfl,_,rfl,_,_,rfl,rfl,_,_,rfl,rfl,rfl⟩)
 have hzI : wI0.heap.size = z0 + 1 + 1 + 1 + 1:=by rw [hwI0,hz0];simp
 rw [hzI] at HL1
 rw [← hz0]
 rw [← hwI0,← hwI]
 clear hz0 hwI0 hwI hzI HLB cl cl1 cl2 cl3 cl4 cl5 c0 c1 c2
 have hs1:=HSA.out wI _ _ _ _ (TysV.keep0 HVA.out HFI.out) HL1.out
 rw [show sames [int',zero] [int',zero] = true from by decide +kernel] at hs1
 refine hs1.mono ?_
 clear hs1
 rintro e wn ⟨rfl,hf⟩
 have HX:=hid (HFI1.out.trans hf)
 clear hf
 go_wp2_with fail
 refine (v_any 0 _).mono ?_
 rintro e wn ⟨rfl,hf⟩
 have HX:=hid (HX.out.trans hf)
 clear hf
 go_wp2_with fail
 obtain ⟨wJ,hwJ⟩ : ∃ x,x = wn.alloc (.cells #[.int .i64 0,.int .i64 0,.slice none 0 0,.int .i64 9,.int .i64 0,.slice none 0 0] 24):=⟨_,rfl⟩
 have HLB : Hid (Blk wJ wn.heap.size 24 #[.int .i64 0,.int .i64 0,.slice none 0 0,.int .i64 9,.int .i64 0,.slice none 0 0]):=hid (by rw [hwJ];exact Blk.new _ _ _)
 have HL2 : Hid (TysV wJ (fun _ => True) [zero,var 0] (.slice (some ⟨wn.heap.size,0,none⟩) 2 2)):=hid (newTys (l:=[zero,var 0]) (by simp) trivial HLB.out (InN.app (leafV 0 0 _) (InN.app (cs:=[.int .i64 9,.int .i64 0,.slice none 0 0]) (ds:=[]) (leafV 9 0 _) (InN.mk_nil _ _))))
 have HX:=hid (HX.out.trans (by rw [hwJ];exact (Fr.refl [] _).alloc _ : Fr [] _ wJ))
 rw [← hwJ]
 clear hwJ HLB
 have hs1:=HSA.out wJ _ _ _ _ (TysV.keep0 (TysV.keep0 HVB.out HFI0.out) HX.out) HL2.out
 rw [show sames [zero,var 0] [zero,var 0] = true from by decide +kernel] at hs1
 refine hs1.mono ?_
 clear hs1
 rintro e wn ⟨rfl,hf⟩
 have HX:=hid (HX.out.trans hf)
 have HI1:=hid (HI.out.keep0 (HFI0.out.trans HX.out))
 have c0 : wn.cell? ⟨b,0,none⟩ = some (.int .i64 1):=HI1.out.cell 0
 have c1 : wn.cell? ⟨b,1,none⟩ = some (.int .i64 0):=HI1.out.cell 1
 have c2 : wn.cell? ⟨b,2,none⟩ = some (.slice none 0 0):=HI1.out.cell 2
 have cl : b < wn.heap.size:=HI1.out.lt
 clear HI1
 clear hf HL2
 go_wp2_with fail
 refine (box_lit _ _ _ _ _ _ _ (leafV 1 0 _)).mono ?_
 rintro e wn ⟨hf,p9,c9,rfl,hty⟩
 have HX:=hid (HX.out.trans hf)
 have T1:=hid hty
 clear hf hty c0 c1 c2 cl
 go_wp2_with fail
 obtain ⟨wK,hwK⟩ : ∃ x,x = wn.alloc (.cells #[.int .i64 3,.int .i64 0,.slice p9 1 c9] 24):=⟨_,rfl⟩
 have HLB : Hid (Blk wK wn.heap.size 24 #[.int .i64 3,.int .i64 0,.slice p9 1 c9]):=hid (by rw [hwK];exact Blk.new _ _ _)
 have HFK : Hid (Fr [] wn wK):=hid (by rw [hwK];exact (Fr.refl [] _).alloc _)
 have HL3 : Hid (TysV wK (fun _ => True) [box' int'] (.slice (some ⟨wn.heap.size,0,none⟩) 1 1)):=hid (newTys (l:=[box' int']) (by simp) trivial HLB.out (by rw [rowsQ_one];exact TyV.keep0 T1.out HFK.out))
 have HX:=hid (HX.out.trans HFK.out)
 rw [← hwK]
 clear hwK HLB HFK T1
 have hs1:=HSA.out wK _ _ _ _ (TysV.keep0 (TysV.keep0 HVM.out HFI0.out) HX.out) HL3.out
 rw [show sames [box' int'] [box' int'] = true from by decide +kernel] at hs1
 refine hs1.mono ?_
 clear hs1
 rintro e wn ⟨rfl,hf⟩
 have HX:=hid (HX.out.trans hf)
 clear hf HL3
 go_wp2_with fail
 obtain ⟨wL,hwL⟩ : ∃ v : World,v = wn:=⟨_,rfl⟩
 subst hwL
 have HIL:=hid (HI.out.keep0 (HFI0.out.trans HX.out))
 have HPL:=hid (HPB.out.keep (X:=[]) HX.out (by simp))
 have HTL:=hid (HTB.out.keep (X:=[]) HX.out (by simp))
 have HFL:=hid (HFA.out.trans (HFI0.out.trans HX.out))
 have HTYL:=hid (TyV.keep0 HTY.out HX.out)
 have HPVL:=hid (ProgV.keep0 HPV.out HX.out)
 have HVAL:=hid (TysV.keep0 (TysV.keep0 HVA.out HFI0.out) HX.out)
 clear HI HPB HTB HTY HPV HVA HVB HVM HX HT HDB HAB HFI0 HFI1 HFI HL1 HFA
 have HK : Hid (∀ wx,Fr [] wL wx → wx.cell? ⟨b,0,none⟩ = some (.int .i64 1) ∧ wx.cell? ⟨b,1,none⟩ = some (.int .i64 0) ∧ wx.cell? ⟨b,2,none⟩ = some (.slice none 0 0) ∧ wx.cell? ⟨z0 + 1,0,none⟩ = some (.slice none 0 0) ∧ wx.cell? ⟨z0 + 1,1,none⟩ = some (.slice none 0 0) ∧ wx.cell? ⟨z0 + 1,2,none⟩ = some (.slice (some ⟨z0,0,none⟩) 1 1) ∧ wx.cell? ⟨z0 + 1,3,none⟩ = some (.slice none 0 0) ∧ wx.cell? ⟨z0 + 1,4,none⟩ = some (.slice none 0 0) ∧ wx.cell? ⟨z0 + 1,5,none⟩ = some (.slice none 0 0) ∧ wx.cell? ⟨z0 + 1,6,none⟩ = some (.slice none 0 0) ∧ wx.cell? ⟨z0 + 1,7,none⟩ = some (.int .i64 0) ∧ wx.cell? ⟨z0 + 1 + 1 + 1,0,none⟩ = some (.int .i64 2) ∧ wx.cell? ⟨z0 + 1 + 1 + 1,1,none⟩ = some (.int .i64 0) ∧ wx.cell? ⟨z0 + 1 + 1 + 1,2,none⟩ = some (.slice (some ⟨z0 + 1 + 1,0,none⟩) 1 1) ∧ b < wx.heap.size ∧ z0 + 1 < wx.heap.size ∧ z0 + 1 + 1 + 1 < wx.heap.size):=hid (fun wx hf => ⟨(Blk.keep (X:=[]) HIL.out hf (by simp)).cell 0,(Blk.keep (X:=[]) HIL.out hf (by simp)).cell 1,(Blk.keep (X:=[]) HIL.out hf (by simp)).cell 2,(Blk.keep (X:=[]) HPL.out hf (by simp)).cell 0,(Blk.keep (X:=[]) HPL.out hf (by simp)).cell 1,(Blk.keep (X:=[]) HPL.out hf (by simp)).cell 2,(Blk.keep (X:=[]) HPL.out hf (by simp)).cell 3,(Blk.keep (X:=[]) HPL.out hf (by simp)).cell 4,(Blk.keep (X:=[]) HPL.out hf (by simp)).cell 5,(Blk.keep (X:=[]) HPL.out hf (by simp)).cell 6,(Blk.keep (X:=[]) HPL.out hf (by simp)).cell 7,(Blk.keep (X:=[]) HTL.out hf (by simp)).cell 0,(Blk.keep (X:=[]) HTL.out hf (by simp)).cell 1,(Blk.keep (X:=[]) HTL.out hf (by simp)).cell 2,(Blk.keep (X:=[]) HIL.out hf (by simp)).lt,(Blk.keep (X:=[]) HPL.out hf (by simp)).lt,(Blk.keep (X:=[]) HTL.out hf (by simp)).lt⟩)
 have HN : Hid (Fr [] wL wL.drew):=hid ((Fr.refl [] _).drew)
 have HV1 : Hid (∀ wx,Fr [] wL wx → Calls Try.prog 21 #[.agg #[.slice none 0 0,.slice none 0 0,.slice (some ⟨z0,0,none⟩) 1 1,.slice none 0 0,.slice none 0 0,.slice none 0 0,.slice none 0 0,.int .i64 0],.int .i64 0,.agg #[.int .i64 2,.int .i64 0,.slice (some ⟨z0 + 1 + 1,0,none⟩) 1 1]] wx (LookP true wx)):=hid (fun wx hf => Un.h_v1 ▸ valid_any [1] 0 _ _ _ _ _ wx (HPVL.out.keep0 hf) (TyV.keep0 HTYL.out hf))
 have HV2 : Hid (∀ wx,Fr [] wL wx → Calls Try.prog 21 #[.agg #[.slice none 0 0,.slice none 0 0,.slice (some ⟨z0,0,none⟩) 1 1,.slice none 0 0,.slice none 0 0,.slice none 0 0,.slice none 0 0,.int .i64 0],.int .i64 0,.agg #[.int .i64 5,.int .i64 0,.slice none 0 0]] wx (LookP false wx)):=hid (fun wx hf => Un.h_v2 ▸ valid_any [1] 0 _ _ _ _ (par 0) wx (HPVL.out.keep0 hf) (leafV 5 0 wx))
 have HV3 : Hid (∀ wx,Fr [] wL wx → ∀ cs,TyV wx (fun _ => True) (.mk 7 0 [.mk 5 0 []]) cs → Calls Try.prog 21 #[.agg #[.slice none 0 0,.slice none 0 0,.slice (some ⟨z0,0,none⟩) 1 1,.slice none 0 0,.slice none 0 0,.slice none 0 0,.slice none 0 0,.int .i64 0],.int .i64 1,.agg cs.toArray] wx (LookP true wx)):=hid (fun wx hf cs h => Un.h_v3 ▸ valid_any [1] 1 _ _ _ _ (.mk 7 0 [par 0]) wx (HPVL.out.keep0 hf) h)
 have HV4 : Hid (∀ wx,Fr [] wL wx → ∀ cs,TyV wx (fun _ => True) (.mk 3 0 [.mk 7 0 [.mk 5 0 []]]) cs → Calls Try.prog 21 #[.agg #[.slice none 0 0,.slice none 0 0,.slice (some ⟨z0,0,none⟩) 1 1,.slice none 0 0,.slice none 0 0,.slice none 0 0,.slice none 0 0,.int .i64 0],.int .i64 1,.agg cs.toArray] wx (LookP false wx)):=hid (fun wx hf cs h => Un.h_v4 ▸ valid_any [1] 1 _ _ _ _ (box' (.mk 7 0 [par 0])) wx (HPVL.out.keep0 hf) h)
 have HAL : Hid (∀ wx,Fr [] wL wx → ∀ cs,TyV wx (fun _ => True) (.mk 3 0 [.mk 9 0 []]) cs → Calls Try.prog 19 #[.slice pa 2 ca,.agg cs.toArray] wx (GivesOf 3 (.mk 1 0 []) wx)):=hid (fun wx hf cs h => apply_lit _ cs wx (TysV.keep0 HVAL.out hf) h)
 go_region_held3 (fun w' => w'.cell? ⟨b,0,none⟩ = some (.int .i64 1) ∧ w'.cell? ⟨b,1,none⟩ = some (.int .i64 0) ∧ w'.cell? ⟨b,2,none⟩ = some (.slice none 0 0) ∧ w'.cell? ⟨z0 + 1,0,none⟩ = some (.slice none 0 0) ∧ w'.cell? ⟨z0 + 1,1,none⟩ = some (.slice none 0 0) ∧ w'.cell? ⟨z0 + 1,2,none⟩ = some (.slice (some ⟨z0,0,none⟩) 1 1) ∧ w'.cell? ⟨z0 + 1,3,none⟩ = some (.slice none 0 0) ∧ w'.cell? ⟨z0 + 1,4,none⟩ = some (.slice none 0 0) ∧ w'.cell? ⟨z0 + 1,5,none⟩ = some (.slice none 0 0) ∧ w'.cell? ⟨z0 + 1,6,none⟩ = some (.slice none 0 0) ∧ w'.cell? ⟨z0 + 1,7,none⟩ = some (.int .i64 0) ∧ w'.cell? ⟨z0 + 1 + 1 + 1,0,none⟩ = some (.int .i64 2) ∧ w'.cell? ⟨z0 + 1 + 1 + 1,1,none⟩ = some (.int .i64 0) ∧ w'.cell? ⟨z0 + 1 + 1 + 1,2,none⟩ = some (.slice (some ⟨z0 + 1 + 1,0,none⟩) 1 1) ∧ b < w'.heap.size ∧ z0 + 1 < w'.heap.size ∧ z0 + 1 + 1 + 1 < w'.heap.size) (first | exact HK.out _ HN.out | exact HK.out _ (HN.out.alloc _))
  (first | (go_at_call 23;(with_reducible refine (p_any _ _).mono ?_);rintro e wn ⟨rfl,hf⟩;(first | have T1:=hid (TyV.keep0 T1.out hf) | have T1:=hid (TyV.keep0 (TyV.keep0 T1.out ((Fr.refl [] _).alloc _)) hf) | skip);(first | have T2:=hid (TyV.keep0 T2.out hf) | have T2:=hid (TyV.keep0 (TyV.keep0 T2.out ((Fr.refl [] _).alloc _)) hf) | skip);(first | have T3:=hid (TyV.keep0 T3.out hf) | have T3:=hid (TyV.keep0 (TyV.keep0 T3.out ((Fr.refl [] _).alloc _)) hf) | skip);(first | have TL:=hid (TysV.keep0 TL.out hf) | have TL:=hid (TysV.keep0 (newInt _) hf) | skip);(first | have HN:=hid (HN.out.trans hf) | have HN:=hid ((HN.out.alloc _).trans hf));clear hf) | (go_at_call 30;(with_reducible refine (v_any _ _).mono ?_);rintro e wn ⟨rfl,hf⟩;(first | have T1:=hid (TyV.keep0 T1.out hf) | have T1:=hid (TyV.keep0 (TyV.keep0 T1.out ((Fr.refl [] _).alloc _)) hf) | skip);(first | have T2:=hid (TyV.keep0 T2.out hf) | have T2:=hid (TyV.keep0 (TyV.keep0 T2.out ((Fr.refl [] _).alloc _)) hf) | skip);(first | have T3:=hid (TyV.keep0 T3.out hf) | have T3:=hid (TyV.keep0 (TyV.keep0 T3.out ((Fr.refl [] _).alloc _)) hf) | skip);(first | have TL:=hid (TysV.keep0 TL.out hf) | have TL:=hid (TysV.keep0 (newInt _) hf) | skip);(first | have HN:=hid (HN.out.trans hf) | have HN:=hid ((HN.out.alloc _).trans hf));clear hf) | (go_at_call 21;(with_reducible refine (HV1.out _ (by first | exact HN.out | exact HN.out.alloc _)).mono ?_);rintro e wn ⟨rfl,hf⟩;(first | have T1:=hid (TyV.keep0 T1.out hf) | have T1:=hid (TyV.keep0 (TyV.keep0 T1.out ((Fr.refl [] _).alloc _)) hf) | skip);(first | have T2:=hid (TyV.keep0 T2.out hf) | have T2:=hid (TyV.keep0 (TyV.keep0 T2.out ((Fr.refl [] _).alloc _)) hf) | skip);(first | have T3:=hid (TyV.keep0 T3.out hf) | have T3:=hid (TyV.keep0 (TyV.keep0 T3.out ((Fr.refl [] _).alloc _)) hf) | skip);(first | have TL:=hid (TysV.keep0 TL.out hf) | have TL:=hid (TysV.keep0 (newInt _) hf) | skip);(first | have HN:=hid (HN.out.trans hf) | have HN:=hid ((HN.out.alloc _).trans hf));clear hf) | (go_at_call 21;(with_reducible refine (HV2.out _ (by first | exact HN.out | exact HN.out.alloc _)).mono ?_);rintro e wn ⟨rfl,hf⟩;(first | have T1:=hid (TyV.keep0 T1.out hf) | have T1:=hid (TyV.keep0 (TyV.keep0 T1.out ((Fr.refl [] _).alloc _)) hf) | skip);(first | have T2:=hid (TyV.keep0 T2.out hf) | have T2:=hid (TyV.keep0 (TyV.keep0 T2.out ((Fr.refl [] _).alloc _)) hf) | skip);(first | have T3:=hid (TyV.keep0 T3.out hf) | have T3:=hid (TyV.keep0 (TyV.keep0 T3.out ((Fr.refl [] _).alloc _)) hf) | skip);(first | have TL:=hid (TysV.keep0 TL.out hf) | have TL:=hid (TysV.keep0 (newInt _) hf) | skip);(first | have HN:=hid (HN.out.trans hf) | have HN:=hid ((HN.out.alloc _).trans hf));clear hf) | (go_at_call 21;(with_reducible refine (HV3.out _ (by first | exact HN.out | exact HN.out.alloc _) _ T1.out).mono ?_);rintro e wn ⟨rfl,hf⟩;(first | have T1:=hid (TyV.keep0 T1.out hf) | have T1:=hid (TyV.keep0 (TyV.keep0 T1.out ((Fr.refl [] _).alloc _)) hf) | skip);(first | have T2:=hid (TyV.keep0 T2.out hf) | have T2:=hid (TyV.keep0 (TyV.keep0 T2.out ((Fr.refl [] _).alloc _)) hf) | skip);(first | have T3:=hid (TyV.keep0 T3.out hf) | have T3:=hid (TyV.keep0 (TyV.keep0 T3.out ((Fr.refl [] _).alloc _)) hf) | skip);(first | have TL:=hid (TysV.keep0 TL.out hf) | have TL:=hid (TysV.keep0 (newInt _) hf) | skip);(first | have HN:=hid (HN.out.trans hf) | have HN:=hid ((HN.out.alloc _).trans hf));clear hf) | (go_at_call 21;(with_reducible refine (HV4.out _ (by first | exact HN.out | exact HN.out.alloc _) _ T2.out).mono ?_);rintro e wn ⟨rfl,hf⟩;(first | have T1:=hid (TyV.keep0 T1.out hf) | have T1:=hid (TyV.keep0 (TyV.keep0 T1.out ((Fr.refl [] _).alloc _)) hf) | skip);(first | have T2:=hid (TyV.keep0 T2.out hf) | have T2:=hid (TyV.keep0 (TyV.keep0 T2.out ((Fr.refl [] _).alloc _)) hf) | skip);(first | have T3:=hid (TyV.keep0 T3.out hf) | have T3:=hid (TyV.keep0 (TyV.keep0 T3.out ((Fr.refl [] _).alloc _)) hf) | skip);(first | have TL:=hid (TysV.keep0 TL.out hf) | have TL:=hid (TysV.keep0 (newInt _) hf) | skip);(first | have HN:=hid (HN.out.trans hf) | have HN:=hid ((HN.out.alloc _).trans hf));clear hf) | (go_at_call 34;(with_reducible refine (of_lit 7 _ _ _ _ _ _ _ (leafV 5 0 _)).mono ?_);rintro e wn ⟨hf,pn,cn,rfl,hty⟩;(first | have T1:=hid (TyV.keep0 T1.out hf) | have T1:=hid (TyV.keep0 (TyV.keep0 T1.out ((Fr.refl [] _).alloc _)) hf) | skip);(first | have T2:=hid (TyV.keep0 T2.out hf) | have T2:=hid (TyV.keep0 (TyV.keep0 T2.out ((Fr.refl [] _).alloc _)) hf) | skip);(first | have T3:=hid (TyV.keep0 T3.out hf) | have T3:=hid (TyV.keep0 (TyV.keep0 T3.out ((Fr.refl [] _).alloc _)) hf) | skip);(first | have TL:=hid (TysV.keep0 TL.out hf) | have TL:=hid (TysV.keep0 (newInt _) hf) | skip);have T1:=hid hty;clear hty;(first | have HN:=hid (HN.out.trans hf) | have HN:=hid ((HN.out.alloc _).trans hf));clear hf) | (go_at_call 33;(with_reducible refine (box_lit _ _ _ _ _ _ _ (leafV 5 0 _)).mono ?_);rintro e wn ⟨hf,pn,cn,rfl,hty⟩;(first | have T1:=hid (TyV.keep0 T1.out hf) | have T1:=hid (TyV.keep0 (TyV.keep0 T1.out ((Fr.refl [] _).alloc _)) hf) | skip);(first | have T2:=hid (TyV.keep0 T2.out hf) | have T2:=hid (TyV.keep0 (TyV.keep0 T2.out ((Fr.refl [] _).alloc _)) hf) | skip);(first | have T3:=hid (TyV.keep0 T3.out hf) | have T3:=hid (TyV.keep0 (TyV.keep0 T3.out ((Fr.refl [] _).alloc _)) hf) | skip);(first | have TL:=hid (TysV.keep0 TL.out hf) | have TL:=hid (TysV.keep0 (newInt _) hf) | skip);have T1:=hid hty;clear hty;(first | have HN:=hid (HN.out.trans hf) | have HN:=hid ((HN.out.alloc _).trans hf));clear hf) | (go_at_call 33;(with_reducible refine (box_lit _ _ _ _ _ _ _ (leafV 9 0 _)).mono ?_);rintro e wn ⟨hf,pn,cn,rfl,hty⟩;(first | have T1:=hid (TyV.keep0 T1.out hf) | have T1:=hid (TyV.keep0 (TyV.keep0 T1.out ((Fr.refl [] _).alloc _)) hf) | skip);(first | have T2:=hid (TyV.keep0 T2.out hf) | have T2:=hid (TyV.keep0 (TyV.keep0 T2.out ((Fr.refl [] _).alloc _)) hf) | skip);(first | have T3:=hid (TyV.keep0 T3.out hf) | have T3:=hid (TyV.keep0 (TyV.keep0 T3.out ((Fr.refl [] _).alloc _)) hf) | skip);(first | have TL:=hid (TysV.keep0 TL.out hf) | have TL:=hid (TysV.keep0 (newInt _) hf) | skip);have T1:=hid hty;clear hty;(first | have HN:=hid (HN.out.trans hf) | have HN:=hid ((HN.out.alloc _).trans hf));clear hf) | (go_at_call 33;(with_reducible refine (box_lit _ _ _ _ _ _ _ (leafV 1 0 _)).mono ?_);rintro e wn ⟨hf,pn,cn,rfl,hty⟩;(first | have T1:=hid (TyV.keep0 T1.out hf) | have T1:=hid (TyV.keep0 (TyV.keep0 T1.out ((Fr.refl [] _).alloc _)) hf) | skip);(first | have T2:=hid (TyV.keep0 T2.out hf) | have T2:=hid (TyV.keep0 (TyV.keep0 T2.out ((Fr.refl [] _).alloc _)) hf) | skip);(first | have T3:=hid (TyV.keep0 T3.out hf) | have T3:=hid (TyV.keep0 (TyV.keep0 T3.out ((Fr.refl [] _).alloc _)) hf) | skip);(first | have TL:=hid (TysV.keep0 TL.out hf) | have TL:=hid (TysV.keep0 (newInt _) hf) | skip);have T3:=hid hty;clear hty;(first | have HN:=hid (HN.out.trans hf) | have HN:=hid ((HN.out.alloc _).trans hf));clear hf) | (go_at_call 33;(with_reducible refine (box_lit _ _ _ _ _ _ _ T1.out).mono ?_);rintro e wn ⟨hf,pn,cn,rfl,hty⟩;(first | have T1:=hid (TyV.keep0 T1.out hf) | have T1:=hid (TyV.keep0 (TyV.keep0 T1.out ((Fr.refl [] _).alloc _)) hf) | skip);(first | have T2:=hid (TyV.keep0 T2.out hf) | have T2:=hid (TyV.keep0 (TyV.keep0 T2.out ((Fr.refl [] _).alloc _)) hf) | skip);(first | have T3:=hid (TyV.keep0 T3.out hf) | have T3:=hid (TyV.keep0 (TyV.keep0 T3.out ((Fr.refl [] _).alloc _)) hf) | skip);(first | have TL:=hid (TysV.keep0 TL.out hf) | have TL:=hid (TysV.keep0 (newInt _) hf) | skip);have T2:=hid hty;clear hty;(first | have HN:=hid (HN.out.trans hf) | have HN:=hid ((HN.out.alloc _).trans hf));clear hf) | (go_at_call 17;(with_reducible refine (subst_lit _ _ _ (by first | exact TL.out | exact newInt _) (by first | exact T1.out | exact TyV.keep0 T1.out ((Fr.refl [] _).alloc _))).mono ?_);rintro e wn ⟨hf,pn,cn,rfl,hty⟩;(first | have T1:=hid (TyV.keep0 T1.out hf) | have T1:=hid (TyV.keep0 (TyV.keep0 T1.out ((Fr.refl [] _).alloc _)) hf) | skip);(first | have T2:=hid (TyV.keep0 T2.out hf) | have T2:=hid (TyV.keep0 (TyV.keep0 T2.out ((Fr.refl [] _).alloc _)) hf) | skip);(first | have T3:=hid (TyV.keep0 T3.out hf) | have T3:=hid (TyV.keep0 (TyV.keep0 T3.out ((Fr.refl [] _).alloc _)) hf) | skip);(first | have TL:=hid (TysV.keep0 TL.out hf) | have TL:=hid (TysV.keep0 (newInt _) hf) | skip);have T2:=hid hty;clear hty;(first | have HN:=hid (HN.out.trans hf) | have HN:=hid ((HN.out.alloc _).trans hf));clear hf) | (go_at_call 19;(with_reducible refine (HAL.out _ (by first | exact HN.out | exact HN.out.alloc _) _ T1.out).mono ?_);rintro e wn ⟨hf,pn,cn,rfl,hty⟩;(first | have T1:=hid (TyV.keep0 T1.out hf) | have T1:=hid (TyV.keep0 (TyV.keep0 T1.out ((Fr.refl [] _).alloc _)) hf) | skip);(first | have T2:=hid (TyV.keep0 T2.out hf) | have T2:=hid (TyV.keep0 (TyV.keep0 T2.out ((Fr.refl [] _).alloc _)) hf) | skip);(first | have T3:=hid (TyV.keep0 T3.out hf) | have T3:=hid (TyV.keep0 (TyV.keep0 T3.out ((Fr.refl [] _).alloc _)) hf) | skip);(first | have TL:=hid (TysV.keep0 TL.out hf) | have TL:=hid (TysV.keep0 (newInt _) hf) | skip);have T2:=hid hty;clear hty;(first | have HN:=hid (HN.out.trans hf) | have HN:=hid ((HN.out.alloc _).trans hf));clear hf) | (go_at_call 16;(with_reducible refine (rsame_lit _ _ _ T2.out T3.out).mono ?_);rintro e wn ⟨rfl,hf⟩;(first | have T1:=hid (TyV.keep0 T1.out hf) | have T1:=hid (TyV.keep0 (TyV.keep0 T1.out ((Fr.refl [] _).alloc _)) hf) | skip);(first | have T2:=hid (TyV.keep0 T2.out hf) | have T2:=hid (TyV.keep0 (TyV.keep0 T2.out ((Fr.refl [] _).alloc _)) hf) | skip);(first | have T3:=hid (TyV.keep0 T3.out hf) | have T3:=hid (TyV.keep0 (TyV.keep0 T3.out ((Fr.refl [] _).alloc _)) hf) | skip);(first | have TL:=hid (TysV.keep0 TL.out hf) | have TL:=hid (TysV.keep0 (newInt _) hf) | skip);(first | have HN:=hid (HN.out.trans hf) | have HN:=hid ((HN.out.alloc _).trans hf));clear hf))
 all_goals (try go_wp2_with fail)
 all_goals go_ret
 all_goals exact ⟨rfl,HFL.out.trans HN.out⟩
end Go.Proofs.Ytcdlnhfgehhkcaa
