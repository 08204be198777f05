/- part of the proof -/
import Derived.Test.YtcdlnhfgehhkcaaQ18
import Derived.Test.YtcdlnhfgehhkcaaQ12
set_option linter.unusedVariables false
set_option linter.unusedSimpArgs false
set_option linter.unusedSectionVars false
namespace Go.Proofs.Ytcdlnhfgehhkcaa
open Go.RowKit Go.Lib
open Un (kd nm ar size sizes element over app)
def Un.applyTo (s : List Ty) (t : Ty) : Option Ty:=match Un.wf s with
 | none => none
 | some false => some Un.zero
 | some true => if over s.length t = true then app s 12 t else some Un.zero
set_option maxRecDepth 100000 in
set_option maxHeartbeats 3200000 in
theorem applyTo_any (N : Nat → Prop) (s : List Ty) (v : Value) (t : Ty) (cs : List Value) (w : World) (hv : TysV w N s v) (h0 : 0 < s.length) (hl : s.length ≤ 900) (hs : ∀ t ∈ s,size t ≤ 90000) (ht : TyV w N t cs) (hst : size t ≤ 90000) (r : Ty) (hr : Un.applyTo s t = some r) :
  Calls Try.prog 19 #[v,.agg cs.toArray] w (TypP (fun _ => True) r w):=by
 obtain ⟨pt,kt,rfl,_⟩:=ht.shape
 obtain ⟨ps,kp,rfl⟩:=hv.shape
 have HV:=hid hv
 have HT:=hid ht
 have HR:=hid hr
 have HS:=hid hs
 obtain ⟨w1,hw1⟩ : ∃ w1,w1 = (w.alloc (.cells #[.int .i64 (kd t),.int .i64 (nm t),.slice pt (ar t).length kt] 24)).alloc (.cells #[.int .i64 0,.int .i64 0,.slice none 0 0] 24):=⟨_,rfl⟩
 have HF1 : Hid (Fr [] w w1):=hid (by rw [hw1];exact ((Fr.refl _ _).alloc _).alloc _)
 have HBT1 : Hid (Blk w1 w.heap.size 24 #[.int .i64 (kd t),.int .i64 (nm t),.slice pt (ar t).length kt]):=hid (by rw [hw1];exact (Blk.new _ _ _).alloc _)
 have HBR1 : Hid (Blk w1 (w.heap.size + 1) 24 #[.int .i64 0,.int .i64 0,.slice none 0 0]):=hid (by rw [hw1];exact Blk.new_at (by simp))
 clear hv ht hr hs
 obtain ⟨wb,hwb⟩ : ∃ wb,Un.wf s = some wb:=by
  have h1:=HR.out
  unfold Un.applyTo at h1
  cases h : Un.wf s with
  | none => rw [h] at h1;cases h1
  | some b => exact ⟨b,rfl⟩
 have HWB:=hid hwb
 clear hwb
 go_enter Try.func19,Try.ntmps19
 go_wp2_with fail
 rw [← hw1]
 clear hw1
 refine (wf_any N s _ w1 (HV.out.keep0 HF1.out) (by omega) HS.out wb HWB.out).mono ?_
 rintro e w2 ⟨rfl,hf2⟩
 have HF2:=hid (HF1.out.trans hf2)
 have HBT2:=hid (HBT1.out.keep hf2 (by simp))
 have HBR2:=hid (HBR1.out.keep hf2 (by simp))
 clear hf2 HBT1 HBR1
 cases wb with
 | false =>
  have HZ : Hid (r = Un.zero):=hid (by
   have h1:=HR.out
   unfold Un.applyTo at h1
   rw [HWB.out] at h1
   simpa using h1.symm)
  have d0:=HBR2.out.cell 0
  have d1:=HBR2.out.cell 1
  have d2:=HBR2.out.cell 2
  have f0:=HBR2.out.frozen 0
  have f1:=HBR2.out.frozen 1
  have f2:=HBR2.out.frozen 2
  have fl:=HBR2.out.lt
  go_wp2_with fail
  have hbx:=HBR2.out.set3 (.int .i64 0) (.int .i64 0) (.slice none 0 0)
  have e0:=hbx.cell 0
  have e1:=hbx.cell 1
  have e2:=hbx.cell 2
  have hf3:=HF2.out.set3 (b:=w.heap.size + 1) (.inr (by omega)) (.int .i64 0) (.int .i64 0) (.slice none 0 0)
  rw [HZ.out]
  exact bodyPost_ret (v:=.agg #[.int .i64 0,.int .i64 0,.slice none 0 0]) (by simp [results,Try.results19,go_sem,e0,e1,e2]) rfl ⟨hf3,_,rfl,TyV.mk (TysV.nil _ _)⟩
 | true =>
  have c0 : w2.cell? ⟨w.heap.size,0,none⟩ = some (.int .i64 (kd t)):=HBT2.out.cell 0
  have c1 : w2.cell? ⟨w.heap.size,1,none⟩ = some (.int .i64 (nm t)):=HBT2.out.cell 1
  have c2 : w2.cell? ⟨w.heap.size,2,none⟩ = some (.slice pt (ar t).length kt):=HBT2.out.cell 2
  have cl : w.heap.size < w2.heap.size:=HBT2.out.lt
  go_wp2_with fail
  refine (over_any N s (by omega) ps kp (size t) t (Nat.le_refl _) _ w2 (HT.out.keep0 HF2.out)).mono ?_
  rintro e w3 ⟨rfl,hf3⟩
  have HF3:=hid (HF2.out.trans hf3)
  have HBT3:=hid (HBT2.out.keep hf3 (by simp))
  have HBR3:=hid (HBR2.out.keep hf3 (by simp))
  clear hf3 c0 c1 c2 cl HBT2 HBR2
  cases e1 : over s.length t with
  | false =>
   have HZ : Hid (r = Un.zero):=hid (by
    have h1:=HR.out
    unfold Un.applyTo at h1
    rw [HWB.out] at h1
    simp only [e1] at h1
    simpa using h1.symm)
   clear e1
   have d0:=HBR3.out.cell 0
   have d1:=HBR3.out.cell 1
   have d2:=HBR3.out.cell 2
   have f0:=HBR3.out.frozen 0
   have f1:=HBR3.out.frozen 1
   have f2:=HBR3.out.frozen 2
   have fl:=HBR3.out.lt
   go_wp2_with fail
   have hbx:=HBR3.out.set3 (.int .i64 0) (.int .i64 0) (.slice none 0 0)
   have e0:=hbx.cell 0
   have e1:=hbx.cell 1
   have e2:=hbx.cell 2
   have hf3:=HF3.out.set3 (b:=w.heap.size + 1) (.inr (by omega)) (.int .i64 0) (.int .i64 0) (.slice none 0 0)
   rw [HZ.out]
   exact bodyPost_ret (v:=.agg #[.int .i64 0,.int .i64 0,.slice none 0 0]) (by simp [results,Try.results19,go_sem,e0,e1,e2]) rfl ⟨hf3,_,rfl,TyV.mk (TysV.nil _ _)⟩
  | true =>
   have HAP : Hid (app s 12 t = some r):=hid (by
    have h1:=HR.out
    unfold Un.applyTo at h1
    rw [HWB.out] at h1
    simp only [e1] at h1
    simpa using h1)
   clear e1
   have r0 : w3.cell? ⟨w.heap.size,0,none⟩ = some (.int .i64 (kd t)):=HBT3.out.cell 0
   have r1 : w3.cell? ⟨w.heap.size,1,none⟩ = some (.int .i64 (nm t)):=HBT3.out.cell 1
   have r2 : w3.cell? ⟨w.heap.size,2,none⟩ = some (.slice pt (ar t).length kt):=HBT3.out.cell 2
   have d0 : w3.drew.cell? ⟨w.heap.size,0,none⟩ = some (.int .i64 (kd t)):=r0
   have d1 : w3.drew.cell? ⟨w.heap.size,1,none⟩ = some (.int .i64 (nm t)):=r1
   have d2 : w3.drew.cell? ⟨w.heap.size,2,none⟩ = some (.slice pt (ar t).length kt):=r2
   have l0 : w.heap.size < w3.heap.size:=HBT3.out.lt
   have m0 : w.heap.size < w3.drew.heap.size:=l0
   have HD3 : Hid (Fr [] w w3.drew):=hid HF3.out.drew
   have HVD : Hid (TysV w3.drew (fun _ => True) s (.slice ps s.length kp)):=hid ((TysV.weak (N':=fun _ => True) HV.out (fun _ _ _ => trivial)).keep0 HD3.out)
   have HTD : Hid (TyV w3.drew (fun _ => True) t [.int .i64 (kd t),.int .i64 (nm t),.slice pt (ar t).length kt]):=hid ((TyV.weak (N':=fun _ => True) HT.out (fun _ _ _ => trivial)).keep0 HD3.out)
   have HSB : Hid (∀ x ∈ s,size x ≤ 100000):=hid (fun x hx => by have:=HS.out x hx;omega)
   have HCE : Hid (∀ wx,Fr [] w3.drew wx → wx.cell? ⟨w.heap.size,0,none⟩ = some (.int .i64 (kd t)) ∧ wx.cell? ⟨w.heap.size,1,none⟩ = some (.int .i64 (nm t)) ∧ wx.cell? ⟨w.heap.size,2,none⟩ = some (.slice pt (ar t).length kt) ∧ w.heap.size < wx.heap.size):=hid (fun wx hf => ⟨by rw [hf.cell m0 (by simp)];exact d0,by rw [hf.cell m0 (by simp)];exact d1,by rw [hf.cell m0 (by simp)];exact d2,Nat.lt_of_lt_of_le m0 hf.size⟩)
   have HRB : Hid (∀ wx,Fr [] w3.drew wx → Blk wx (w.heap.size + 1) 24 #[.int .i64 0,.int .i64 0,.slice none 0 0]):=hid (fun wx hf => HBR3.out.keep (X:=[]) ((Fr.refl [] w3).drew.trans hf) (by simp))
   go_wp2_with fail
   go_region_law (first | (go_simp;go_at_call 55;refine (application_any s _ _ HVD.out h0 (by omega)).mono ?_;rintro e w4 ⟨pE,pA,pF,v4,rfl,hA4,hf4⟩;have HA4:=hid hA4;have HF4:=hid hf4;obtain ⟨q0,q1,q2,q3⟩:=HCE.out w4 hf4;have HT4:=hid (HTD.out.keep0 hf4);clear hA4 hf4) | (go_simp;go_at_call 81;refine (apply_any s _ _ _ _ _ HA4.out HSB.out 12 t r HAP.out (by omega) _ _ (Lat.refl _) HT4.out).mono ?_;rintro e w5 ⟨hf5,ds,rfl,hty⟩;obtain ⟨p5,c5,rfl,_⟩:=hty.shape;have HF5:=hid (HF4.out.trans hf5);have hz4 : w.heap.size + 1 < w4.heap.size:=(HRB.out w4 HF4.out).lt;have HT5:=hid (TyV.weak (N':=fun k => k ≠ w.heap.size + 1) hty (fun k hk h => by (have h3 : w4.heap.size ≤ k:=h);omega));have HB5:=hid (HRB.out w5 HF5.out);have x0:=HB5.out.cell 0;have x1:=HB5.out.cell 1;have x2:=HB5.out.cell 2;have y0:=HB5.out.frozen 0;have y1:=HB5.out.frozen 1;have y2:=HB5.out.frozen 2;have z0:=HB5.out.lt;clear hf5 hty hz4))
   all_goals
    have hbx:=HB5.out.set3 (.int .i64 (kd r)) (.int .i64 (nm r)) (.slice p5 (ar r).length c5)
    have HY0:=hid (hbx.cell 0)
    have HY1:=hid (hbx.cell 1)
    have HY2:=hid (hbx.cell 2)
    have hf6:=(HD3.out.trans HF5.out).set3 (b:=w.heap.size + 1) (.inr (by omega)) (.int .i64 (kd r)) (.int .i64 (nm r)) (.slice p5 (ar r).length c5)
    have HF6:=hid hf6
    have HT6 : Hid (TyV (((w5.setCell ⟨w.heap.size + 1,0,none⟩ (.int .i64 (kd r))).setCell ⟨w.heap.size + 1,1,none⟩ (.int .i64 (nm r))).setCell ⟨w.heap.size + 1,2,none⟩ (.slice p5 (ar r).length c5)) (fun _ => True) r [.int .i64 (kd r),.int .i64 (nm r),.slice p5 (ar r).length c5]):=hid (HT5.out.mono (fun k hk hl => ⟨trivial,by simpa [World.setCell] using hl,set3_block _ _ _ hk⟩))
    clear hbx hf6 x0 x1 x2 y0 y1 y2 z0
    go_wp2_with fail
    have d0:=HY0.out
    have d1:=HY1.out
    have d2:=HY2.out
    exact bodyPost_ret (v:=.agg #[.int .i64 (kd r),.int .i64 (nm r),.slice p5 (ar r).length c5]) (by simp [results,Try.results19,go_sem,d0,d1,d2]) rfl ⟨HF6.out,_,rfl,HT6.out⟩
open Un (kd nm ar size sizes same sames int' box' zero var)
namespace Un
def par (i : Int) : Ty:=.mk 5 i []
theorem h_wf : wf [zero,zero] = some true:=by decide +kernel
theorem h_u1 : unify 2 (box' (var 0)) (box' int') = some (.ok [int',zero]):=by kernel_rfl
theorem h_u2 : unify 2 (var 0) (var 1) = some (.ok [zero,var 0]):=by kernel_rfl
theorem h_u3 : unify 2 (box' (var 0)) (.mk 4 0 [var 0]) = some (.error 8):=by kernel_rfl
theorem h_u4 : unify 2 (var 0) (box' (var 0)) = some (.error 8):=by kernel_rfl
theorem h_u5 : unify 2 (var 2) int' = some (.error 1):=by kernel_rfl
theorem h_m1 : matched 1 (box' (par 0)) (box' (box' int')) = some [box' int']:=by kernel_rfl
theorem h_m2 : matched 1 (box' (par 0)) int' = none:=by kernel_rfl
theorem h_pars : pars (box' (par 0)) = [0]:=by kernel_rfl
theorem h_v1 : valid [1] 0 (.mk 2 0 [int']) = true:=by decide +kernel
theorem h_v2 : valid [1] 0 (par 0) = false:=by decide +kernel
theorem h_v3 : valid [1] 1 (.mk 7 0 [par 0]) = true:=by decide +kernel
theorem h_v4 : valid [1] 1 (box' (.mk 7 0 [par 0])) = false:=by decide +kernel
theorem h_s : subst [int'] (box' (par 0)) = box' int':=by kernel_rfl
theorem h_a : applyTo [int',zero] (box' (var 0)) = some (box' int'):=by kernel_rfl
end Un
def GivesTy (t : Ty) (w : World) (e : Ending) (w' : World) : Prop:=Fr [] w w' ∧ ∃ p c,e = .returned (.agg #[.int .i64 (kd t),.int .i64 (nm t),.slice p (ar t).length c]) ∧ TyV w' (fun _ => True) t [.int .i64 (kd t),.int .i64 (nm t),.slice p (ar t).length c]
def GivesLeaf (k i : Int) (w : World) (e : Ending) (w' : World) : Prop:=e = .returned (.agg #[.int .i64 k,.int .i64 i,.slice none 0 0]) ∧ Fr [] w w'
theorem leafV (k i : Int) (w : World) : TyV w (fun _ => True) (.mk k i []) [.int .i64 k,.int .i64 i,.slice none 0 0]:=TyV.mk (TysV.nil _ _)
set_option maxHeartbeats 1600000 in
theorem v_any (n : Int) (w : World) : Calls Try.prog 30 #[.int .i64 n] w (GivesLeaf 9 n w):=by
 go_enter Try.func30,Try.ntmps30
 go_wp2_with fail
 exact bodyPost_ret (v:=.agg #[.int .i64 9,.int .i64 n,.slice none 0 0]) (by simp [results,Try.results30,go_sem]) rfl ⟨rfl,(Fr.refl _ _).alloc _⟩
set_option maxHeartbeats 1600000 in
theorem p_any (n : Int) (w : World) : Calls Try.prog 23 #[.int .i64 n] w (GivesLeaf 5 n w):=by
 go_enter Try.func23,Try.ntmps23
 go_wp2_with fail
 exact bodyPost_ret (v:=.agg #[.int .i64 5,.int .i64 n,.slice none 0 0]) (by simp [results,Try.results23,go_sem]) rfl ⟨rfl,(Fr.refl _ _).alloc _⟩
set_option maxHeartbeats 1600000 in
theorem int_any (w : World) : Calls Try.prog 32 #[] w (GivesLeaf 1 0 w):=by
 go_enter Try.func32,Try.ntmps32
 go_wp2_with fail
 exact bodyPost_ret (v:=.agg #[.int .i64 1,.int .i64 0,.slice none 0 0]) (by simp [results,Try.results32,go_sem]) rfl ⟨rfl,(Fr.refl _ _).alloc _⟩
theorem newTys {w' : World} {N : Nat → Prop} {l : List Ty} {xs : List Value} {b : Nat} (hl : l.length ≤ 1000) (hN : N b) (hb : Blk w' b 24 xs.toArray) (hq : InN w' N (rowsQ qTy l) xs) : TysV w' N l (.slice (some ⟨b,0,none⟩) l.length l.length):=by
 unfold TysV
 rcases Nat.eq_zero_or_pos l.length with h0 | h0
 ·have:=List.eq_nil_of_length_eq_zero h0
  subst this
  exact InN.slNil _ _
 ·rw [InN]
  refine ⟨_,_,rfl,.inr ⟨b,0,l.length,xs,rfl,h0,Nat.le_refl _,by unfold maxLen;omega,hN,hb.lt,by rw [hq.len,rowsQ_ln ln_qTy],fun j hj => ?_,hq⟩,InN.mk_nil _ _⟩
  rw [Nat.zero_add]
  rw [show w'.cell? ⟨b,j,none⟩ = xs.toArray[j]? from Blk.cell hb j]
  simp
def GivesN (N : Nat → Prop) (t : Ty) (w : World) (e : Ending) (w' : World) : Prop:=Fr [] w w' ∧ ∃ p c,e = .returned (.agg #[.int .i64 (kd t),.int .i64 (nm t),.slice p (ar t).length c]) ∧ TyV w' (fun k => N k ∨ w.heap.size ≤ k) t [.int .i64 (kd t),.int .i64 (nm t),.slice p (ar t).length c]
set_option maxRecDepth 100000 in
set_option maxHeartbeats 1600000 in
theorem of_any (N : Nat → Prop) (k : Int) (t : Ty) (p : Option Addr) (n c : Nat) (w : World) (h : TyV w N t [.int .i64 (kd t),.int .i64 (nm t),.slice p n c]) : Calls Try.prog 34 #[.int .i64 k,.agg #[.int .i64 (kd t),.int .i64 (nm t),.slice p n c]] w (GivesN N (.mk k 0 [t]) w):=by
 have HT:=hid h
 clear h
 go_enter Try.func34,Try.ntmps34
 go_wp2_with fail
 have hf : Fr [] w (((w.alloc (.cells #[.int .i64 (kd t),.int .i64 (nm t),.slice p n c] 24)).alloc (.cells #[.int .i64 k,.int .i64 0,.slice (some ⟨w.heap.size + 1 + 1,0,none⟩) 1 1] 24)).alloc (.cells #[.int .i64 (kd t),.int .i64 (nm t),.slice p n c] 24)):=(((Fr.refl _ _).alloc _).alloc _).alloc _
 have hv:=newTys (N:=fun k => N k ∨ w.heap.size ≤ k) (l:=[t]) (b:=w.heap.size + 1 + 1) (xs:=[.int .i64 (kd t),.int .i64 (nm t),.slice p n c]) (by simp) (.inr (by omega)) (Blk.new_at (w:=(w.alloc (.cells #[.int .i64 (kd t),.int .i64 (nm t),.slice p n c] 24)).alloc (.cells #[.int .i64 k,.int .i64 0,.slice (some ⟨w.heap.size + 1 + 1,0,none⟩) 1 1] 24)) (by simp)) (by rw [rowsQ_one];exact InN.weak (InN.keep0 HT.out hf) (fun _ _ h => .inl h))
 exact bodyPost_ret (v:=.agg #[.int .i64 k,.int .i64 0,.slice (some ⟨w.heap.size + 1 + 1,0,none⟩) 1 1]) (by simp [results,Try.results34,go_sem]) rfl ⟨hf,_,_,rfl,TyV.mk hv⟩
set_option maxRecDepth 100000 in
set_option maxHeartbeats 1600000 in
theorem box_any (t : Ty) (p : Option Addr) (n c : Nat) (w : World) (h : TyV w (fun _ => True) t [.int .i64 (kd t),.int .i64 (nm t),.slice p n c]) : Calls Try.prog 33 #[.agg #[.int .i64 (kd t),.int .i64 (nm t),.slice p n c]] w (GivesTy (box' t) w):=by
 have HT:=hid (TyV.weak (N':=fun k => k < w.heap.size) h (fun k hk _ => hk))
 clear h
 obtain ⟨w1,hw1⟩ : ∃ w1,w1 = (w.alloc (.cells #[.int .i64 (kd t),.int .i64 (nm t),.slice p n c] 24)).alloc (.cells #[.int .i64 0,.int .i64 0,.slice none 0 0] 24):=⟨_,rfl⟩
 have HF1 : Hid (Fr [] w w1):=hid (by rw [hw1];exact ((Fr.refl _ _).alloc _).alloc _)
 have HB1 : Hid (Blk w1 (w.heap.size + 1) 24 #[.int .i64 0,.int .i64 0,.slice none 0 0]):=hid (by rw [hw1];exact Blk.new_at (by simp))
 go_enter Try.func33,Try.ntmps33
 go_wp2_with fail
 rw [← hw1]
 clear hw1
 refine (of_any _ 3 t p n c w1 (HT.out.keep0 HF1.out)).mono ?_
 rw [show (.mk 3 0 [t] : Ty) = box' t from rfl]
 rintro e w2 ⟨hf2,p2,c2,rfl,hty⟩
 have hl1:=HB1.out.lt
 have HTY:=hid hty
 have HB2:=hid (HB1.out.keep hf2 (by simp))
 have HF2:=hid (HF1.out.trans hf2)
 clear hf2 hty
 have d0:=HB2.out.cell 0
 have d1:=HB2.out.cell 1
 have d2:=HB2.out.cell 2
 have f0:=HB2.out.frozen 0
 have f1:=HB2.out.frozen 1
 have f2:=HB2.out.frozen 2
 have fl:=HB2.out.lt
 obtain ⟨K,I,L,hK,hI,hL⟩ : ∃ K I L,K = kd (box' t) ∧ I = nm (box' t) ∧ L = (ar (box' t)).length:=⟨_,_,_,rfl,rfl,rfl⟩
 have HK:=hid hK
 have HI:=hid hI
 have HL:=hid hL
 rw [← hK,← hI,← hL] at HTY ⊢
 clear hK hI hL
 go_wp2_with fail
 have hbx:=HB2.out.set3 (.int .i64 K) (.int .i64 I) (.slice p2 L c2)
 have e0:=hbx.cell 0
 have e1:=hbx.cell 1
 have e2:=hbx.cell 2
 have hf3:=HF2.out.set3 (b:=w.heap.size + 1) (.inr (by omega)) (.int .i64 K) (.int .i64 I) (.slice p2 L c2)
 have ht3:=InN.mono (N':=fun _ => True) (w':=((w2.setCell ⟨w.heap.size + 1,0,none⟩ (.int .i64 K)).setCell ⟨w.heap.size + 1,1,none⟩ (.int .i64 I)).setCell ⟨w.heap.size + 1,2,none⟩ (.slice p2 L c2)) (fun k h1 h2 => ⟨trivial,by simpa [World.setCell] using h2,set3_block _ _ _ (by rcases h1 with h1 | h1 <;> omega)⟩) HTY.out
 refine bodyPost_ret (v:=.agg #[.int .i64 K,.int .i64 I,.slice p2 L c2]) (by simp [results,Try.results33,go_sem,e0,e1,e2]) rfl ⟨hf3,p2,c2,by rw [HK.out,HI.out,HL.out],?_⟩
 rw [← HK.out,← HI.out,← HL.out]
 exact ht3
def GivesOf (k : Int) (t : Ty) (w : World) (e : Ending) (w' : World) : Prop:=Fr [] w w' ∧ ∃ p c,e = .returned (.agg #[.int .i64 k,.int .i64 0,.slice p 1 c]) ∧ TyV w' (fun _ => True) (.mk k 0 [t]) [.int .i64 k,.int .i64 0,.slice p 1 c]
theorem box_lit (t : Ty) (k i : Int) (p : Option Addr) (n c : Nat) (w : World) (h : TyV w (fun _ => True) t [.int .i64 k,.int .i64 i,.slice p n c]) : Calls Try.prog 33 #[.agg #[.int .i64 k,.int .i64 i,.slice p n c]] w (GivesOf 3 t w):=by
 obtain ⟨p',c',e,_⟩:=h.shape
 simp only [List.cons.injEq,Value.int.injEq,true_and,Value.slice.injEq,and_true] at e
 obtain ⟨rfl,rfl,rfl,rfl,rfl⟩:=e
 exact box_any t _ _ _ w h
theorem of_lit (q : Int) (t : Ty) (k i : Int) (p : Option Addr) (n c : Nat) (w : World) (h : TyV w (fun _ => True) t [.int .i64 k,.int .i64 i,.slice p n c]) : Calls Try.prog 34 #[.int .i64 q,.agg #[.int .i64 k,.int .i64 i,.slice p n c]] w (GivesOf q t w):=by
 obtain ⟨p',c',e,_⟩:=h.shape
 simp only [List.cons.injEq,Value.int.injEq,true_and,Value.slice.injEq,and_true] at e
 obtain ⟨rfl,rfl,rfl,rfl,rfl⟩:=e
 refine (of_any _ q t _ _ _ w h).mono ?_
 rintro e w' ⟨hf,p2,c2,rfl,hty⟩
 exact ⟨hf,p2,c2,rfl,TyV.weak hty (fun _ _ _ => trivial)⟩
theorem newInt (w : World) : TysV (w.alloc (.cells #[.int .i64 1,.int .i64 0,.slice none 0 0] 24)) (fun _ => True) [.mk 1 0 []] (.slice (some ⟨w.heap.size,0,none⟩) 1 1):=
 newTys (l:=[.mk 1 0 []]) (by simp) trivial (Blk.new _ _ _) (by rw [rowsQ_one];exact leafV 1 0 _)
theorem subst_lit (v : Value) (cs : List Value) (w : World) (hv : TysV w (fun _ => True) [.mk 1 0 []] v) (h : TyV w (fun _ => True) (.mk 3 0 [.mk 5 0 []]) cs) : Calls Try.prog 17 #[v,.agg cs.toArray] w (GivesOf 3 (.mk 1 0 []) w):=by
 refine (subst_any [int'] (box' (Un.par 0)) v cs w _ _ hv h (by decide +kernel) (fun u hu => by rw [List.mem_singleton] at hu;subst hu;decide +kernel)).mono ?_
 rw [Un.h_s]
 rintro e w' ⟨hf,ds,rfl,hty⟩
 obtain ⟨p,c,rfl,_⟩:=hty.shape
 exact ⟨hf,p,c,rfl,TyV.weak hty (fun _ _ _ => trivial)⟩
theorem apply_lit (v : Value) (cs : List Value) (w : World) (hv : TysV w (fun _ => True) [int',zero] v) (h : TyV w (fun _ => True) (.mk 3 0 [.mk 9 0 []]) cs) : Calls Try.prog 19 #[v,.agg cs.toArray] w (GivesOf 3 (.mk 1 0 []) w):=by
 refine (applyTo_any _ [int',zero] v (box' (var 0)) cs w hv (by decide) (by decide) (fun u hu => by simp only [List.mem_cons,List.not_mem_nil,or_false] at hu;rcases hu with rfl | rfl <;> decide +kernel) h (by decide +kernel) _ Un.h_a).mono ?_
 rintro e w' ⟨hf,ds,rfl,hty⟩
 obtain ⟨p,c,rfl,_⟩:=hty.shape
 exact ⟨hf,p,c,rfl,hty⟩
theorem rsame_lit (cs ds : List Value) (w : World) (h : TyV w (fun _ => True) (.mk 3 0 [.mk 1 0 []]) cs) (h' : TyV w (fun _ => True) (.mk 3 0 [.mk 1 0 []]) ds) : Calls Try.prog 16 #[.agg cs.toArray,.agg ds.toArray] w (LookP true w):=by
 have h1:=rsame_any _ _ (size (box' int')) (box' int') (Nat.le_refl _) (box' int') cs ds w h h'
 rwa [show same (box' int') (box' int') = true from by decide +kernel] at h1
end Go.Proofs.Ytcdlnhfgehhkcaa
