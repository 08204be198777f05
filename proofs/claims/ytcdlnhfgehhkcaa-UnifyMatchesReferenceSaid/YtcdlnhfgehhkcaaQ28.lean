/- part of the proof -/
import Derived.Test.YtcdlnhfgehhkcaaQ18
import Derived.Test.YtcdlnhfgehhkcaaQ23
import Derived.Test.YtcdlnhfgehhkcaaQ24
import Derived.Test.YtcdlnhfgehhkcaaQ27
import Derived.Deep.DeepCutAuto
import Derived.Deep.Cut
set_option linter.unusedVariables false
set_option linter.unusedSimpArgs false
set_option linter.unusedSectionVars false
namespace Go.Proofs.Ytcdlnhfgehhkcaa
open Go.RowKit Go.Lib
open Un (kd nm ar size sizes element over appG)
def Un.applyG (fe fa : Nat) (s : List Ty) (t : Ty) : Option Ty:=match Un.wf s with
 | none => none
 | some false => some Un.zero
 | some true => if over s.length t = true then appG s fe fa t else some Un.zero
set_option maxRecDepth 100000 in
set_option maxHeartbeats 3200000 in
theorem applyG2_any (fe fa : Nat) (N : Nat → Prop) (s : List Ty) (v : Value) (t : Ty) (cs : List Value) (w : World) (hv : TysV w N s v) (h0 : 0 < s.length) (hl : s.length ≤ 900) (hs : ∀ t ∈ s,size t ≤ 90000) (ht : TyV w N t cs) (hst : size t ≤ 90000) (r : Ty) (hr : Un.applyG fe fa s t = some r) :
  Calls Try.prog 19 #[v,.agg cs.toArray] w (TypP (fun _ => True) r w):=by
 obtain ⟨pt,kt,rfl,_⟩:=ht.shape
 obtain ⟨ps,kp,rfl⟩:=hv.shape
 have HV:=hid hv
 have HT:=hid ht
 have HR:=hid hr
 have HS:=hid hs
 obtain ⟨w1,hw1⟩ : ∃ w1,w1 = (w.alloc (.cells #[.int .i64 (kd t),.int .i64 (nm t),.slice pt (ar t).length kt] 24)).alloc (.cells #[.int .i64 0,.int .i64 0,.slice none 0 0] 24):=⟨_,rfl⟩
 have HF1 : Hid (Fr [] w w1):=hid (by rw [hw1];exact ((Fr.refl _ _).alloc _).alloc _)
 have HBT1 : Hid (Blk w1 w.heap.size 24 #[.int .i64 (kd t),.int .i64 (nm t),.slice pt (ar t).length kt]):=hid (by rw [hw1];exact (Blk.new _ _ _).alloc _)
 have HBR1 : Hid (Blk w1 (w.heap.size + 1) 24 #[.int .i64 0,.int .i64 0,.slice none 0 0]):=hid (by rw [hw1];exact Blk.new_at (by simp))
 clear hv ht hr hs
 obtain ⟨wb,hwb⟩ : ∃ wb,Un.wf s = some wb:=by
  have h1:=HR.out
  unfold Un.applyG at h1
  cases h : Un.wf s with
  | none => rw [h] at h1;cases h1
  | some b => exact ⟨b,rfl⟩
 have HWB:=hid hwb
 clear hwb
 go_enter Try.func19,Try.ntmps19
 go_wp2_with fail
 rw [← hw1]
 clear hw1
 refine (wf_any N s _ w1 (HV.out.keep0 HF1.out) (by omega) HS.out wb HWB.out).mono ?_
 rintro e w2 ⟨rfl,hf2⟩
 have HF2:=hid (HF1.out.trans hf2)
 have HBT2:=hid (HBT1.out.keep hf2 (by simp))
 have HBR2:=hid (HBR1.out.keep hf2 (by simp))
 clear hf2 HBT1 HBR1
 cases wb with
 | false =>
  have HZ : Hid (r = Un.zero):=hid (by
   have h1:=HR.out
   unfold Un.applyG at h1
   rw [HWB.out] at h1
   simpa using h1.symm)
  have d0:=HBR2.out.cell 0
  have d1:=HBR2.out.cell 1
  have d2:=HBR2.out.cell 2
  have f0:=HBR2.out.frozen 0
  have f1:=HBR2.out.frozen 1
  have f2:=HBR2.out.frozen 2
  have fl:=HBR2.out.lt
  go_wp2_with fail
  have hbx:=HBR2.out.set3 (.int .i64 0) (.int .i64 0) (.slice none 0 0)
  have e0:=hbx.cell 0
  have e1:=hbx.cell 1
  have e2:=hbx.cell 2
  have hf3:=HF2.out.set3 (b:=w.heap.size + 1) (.inr (by omega)) (.int .i64 0) (.int .i64 0) (.slice none 0 0)
  rw [HZ.out]
  exact bodyPost_ret (v:=.agg #[.int .i64 0,.int .i64 0,.slice none 0 0]) (by simp [results,Try.results19,go_sem,e0,e1,e2]) rfl ⟨hf3,_,rfl,TyV.mk (TysV.nil _ _)⟩
 | true =>
  have c0 : w2.cell? ⟨w.heap.size,0,none⟩ = some (.int .i64 (kd t)):=HBT2.out.cell 0
  have c1 : w2.cell? ⟨w.heap.size,1,none⟩ = some (.int .i64 (nm t)):=HBT2.out.cell 1
  have c2 : w2.cell? ⟨w.heap.size,2,none⟩ = some (.slice pt (ar t).length kt):=HBT2.out.cell 2
  have cl : w.heap.size < w2.heap.size:=HBT2.out.lt
  go_wp2_with fail
  refine (over_any N s (by omega) ps kp (size t) t (Nat.le_refl _) _ w2 (HT.out.keep0 HF2.out)).mono ?_
  rintro e w3 ⟨rfl,hf3⟩
  have HF3:=hid (HF2.out.trans hf3)
  have HBT3:=hid (HBT2.out.keep hf3 (by simp))
  have HBR3:=hid (HBR2.out.keep hf3 (by simp))
  clear hf3 c0 c1 c2 cl HBT2 HBR2
  cases e1 : over s.length t with
  | false =>
   have HZ : Hid (r = Un.zero):=hid (by
    have h1:=HR.out
    unfold Un.applyG at h1
    rw [HWB.out] at h1
    simp only [e1] at h1
    simpa using h1.symm)
   clear e1
   have d0:=HBR3.out.cell 0
   have d1:=HBR3.out.cell 1
   have d2:=HBR3.out.cell 2
   have f0:=HBR3.out.frozen 0
   have f1:=HBR3.out.frozen 1
   have f2:=HBR3.out.frozen 2
   have fl:=HBR3.out.lt
   go_wp2_with fail
   have hbx:=HBR3.out.set3 (.int .i64 0) (.int .i64 0) (.slice none 0 0)
   have e0:=hbx.cell 0
   have e1:=hbx.cell 1
   have e2:=hbx.cell 2
   have hf3:=HF3.out.set3 (b:=w.heap.size + 1) (.inr (by omega)) (.int .i64 0) (.int .i64 0) (.slice none 0 0)
   rw [HZ.out]
   exact bodyPost_ret (v:=.agg #[.int .i64 0,.int .i64 0,.slice none 0 0]) (by simp [results,Try.results19,go_sem,e0,e1,e2]) rfl ⟨hf3,_,rfl,TyV.mk (TysV.nil _ _)⟩
  | true =>
   have HAP : Hid (appG s fe fa t = some r):=hid (by
    have h1:=HR.out
    unfold Un.applyG at h1
    rw [HWB.out] at h1
    simp only [e1] at h1
    simpa using h1)
   clear e1
   have r0 : w3.cell? ⟨w.heap.size,0,none⟩ = some (.int .i64 (kd t)):=HBT3.out.cell 0
   have r1 : w3.cell? ⟨w.heap.size,1,none⟩ = some (.int .i64 (nm t)):=HBT3.out.cell 1
   have r2 : w3.cell? ⟨w.heap.size,2,none⟩ = some (.slice pt (ar t).length kt):=HBT3.out.cell 2
   have d0 : w3.drew.cell? ⟨w.heap.size,0,none⟩ = some (.int .i64 (kd t)):=r0
   have d1 : w3.drew.cell? ⟨w.heap.size,1,none⟩ = some (.int .i64 (nm t)):=r1
   have d2 : w3.drew.cell? ⟨w.heap.size,2,none⟩ = some (.slice pt (ar t).length kt):=r2
   have l0 : w.heap.size < w3.heap.size:=HBT3.out.lt
   have m0 : w.heap.size < w3.drew.heap.size:=l0
   have HD3 : Hid (Fr [] w w3.drew):=hid HF3.out.drew
   have HVD : Hid (TysV w3.drew (fun _ => True) s (.slice ps s.length kp)):=hid ((TysV.weak (N':=fun _ => True) HV.out (fun _ _ _ => trivial)).keep0 HD3.out)
   have HTD : Hid (TyV w3.drew (fun _ => True) t [.int .i64 (kd t),.int .i64 (nm t),.slice pt (ar t).length kt]):=hid ((TyV.weak (N':=fun _ => True) HT.out (fun _ _ _ => trivial)).keep0 HD3.out)
   have HSB : Hid (∀ x ∈ s,size x ≤ 100000):=hid (fun x hx => by have:=HS.out x hx;omega)
   have HCE : Hid (∀ wx,Fr [] w3.drew wx → wx.cell? ⟨w.heap.size,0,none⟩ = some (.int .i64 (kd t)) ∧ wx.cell? ⟨w.heap.size,1,none⟩ = some (.int .i64 (nm t)) ∧ wx.cell? ⟨w.heap.size,2,none⟩ = some (.slice pt (ar t).length kt) ∧ w.heap.size < wx.heap.size):=hid (fun wx hf => ⟨by rw [hf.cell m0 (by simp)];exact d0,by rw [hf.cell m0 (by simp)];exact d1,by rw [hf.cell m0 (by simp)];exact d2,Nat.lt_of_lt_of_le m0 hf.size⟩)
   have HRB : Hid (∀ wx,Fr [] w3.drew wx → Blk wx (w.heap.size + 1) 24 #[.int .i64 0,.int .i64 0,.slice none 0 0]):=hid (fun wx hf => HBR3.out.keep (X:=[]) ((Fr.refl [] w3).drew.trans hf) (by simp))
   go_wp2_with fail
   go_region_law (first | (go_simp;go_at_call 55;refine (applicationG_any (fun _ => True) s _ _ HVD.out h0 (by omega)).mono ?_;rintro en w4 ⟨e,cap,pE,pA,pF,rfl,hge,hA4,hf4⟩;have HA4:=hid hA4;have HGE:=hid hge.1;have HF4:=hid hf4;obtain ⟨q0,q1,q2,q3⟩:=HCE.out w4 hf4;have HT4:=hid (TyV.weak (N':=fun k => k ≠ e) ((TyV.weak (N':=fun k => k < w3.drew.heap.size) HTD.out (fun k hk _ => hk)).keep0 hf4) (fun k _ h => by have:=HGE.out;omega));clear hA4 hf4 hge) | (go_simp;go_at_call 81;refine (applyG_any _ s e cap pE pA pF w4 HA4.out.lt fe HSB.out fa t r HAP.out (by omega) _ w4 HA4.out HT4.out).mono ?_;rintro en w5 ⟨hf5,hi5,ds,rfl,hty⟩;obtain ⟨p5,c5,rfl,_⟩:=hty.shape;have HF5:=hid (HF4.out.out1 hf5 HGE.out);have hz4 : w.heap.size + 1 < w4.heap.size:=(HRB.out w4 HF4.out).lt;have HT5:=hid (TyV.weak (N':=fun k => k ≠ w.heap.size + 1) hty (fun k hk h => by (have h3 : w4.heap.size ≤ k:=h);omega));have HB5:=hid (HRB.out w5 HF5.out);have x0:=HB5.out.cell 0;have x1:=HB5.out.cell 1;have x2:=HB5.out.cell 2;have y0:=HB5.out.frozen 0;have y1:=HB5.out.frozen 1;have y2:=HB5.out.frozen 2;have z0:=HB5.out.lt;clear hf5 hty hz4 hi5))
   all_goals
    have hbx:=HB5.out.set3 (.int .i64 (kd r)) (.int .i64 (nm r)) (.slice p5 (ar r).length c5)
    have HY0:=hid (hbx.cell 0)
    have HY1:=hid (hbx.cell 1)
    have HY2:=hid (hbx.cell 2)
    have hf6:=(HD3.out.trans HF5.out).set3 (b:=w.heap.size + 1) (.inr (by omega)) (.int .i64 (kd r)) (.int .i64 (nm r)) (.slice p5 (ar r).length c5)
    have HF6:=hid hf6
    have HT6 : Hid (TyV (((w5.setCell ⟨w.heap.size + 1,0,none⟩ (.int .i64 (kd r))).setCell ⟨w.heap.size + 1,1,none⟩ (.int .i64 (nm r))).setCell ⟨w.heap.size + 1,2,none⟩ (.slice p5 (ar r).length c5)) (fun _ => True) r [.int .i64 (kd r),.int .i64 (nm r),.slice p5 (ar r).length c5]):=hid (HT5.out.mono (fun k hk hl => ⟨trivial,by simpa [World.setCell] using hl,set3_block _ _ _ hk⟩))
    clear hbx hf6 x0 x1 x2 y0 y1 y2 z0
    go_wp2_with fail
    have d0:=HY0.out
    have d1:=HY1.out
    have d2:=HY2.out
    exact bodyPost_ret (v:=.agg #[.int .i64 (kd r),.int .i64 (nm r),.slice p5 (ar r).length c5]) (by simp [results,Try.results19,go_sem,d0,d1,d2]) rfl ⟨HF6.out,_,rfl,HT6.out⟩
end Go.Proofs.Ytcdlnhfgehhkcaa
namespace Go.Proofs.Ytcdlnhfgehhkcaa
namespace Un
theorem over_no : ∀ (t : Ty),over 0 t = true → ∀ v : Int,occ v t = false:=by
 refine Un.Ty.ind fun k i al ih => ?_
 intro h v
 by_cases h9 : k = 9
 ·subst h9
  rw [over_eq,if_pos (show kd (Ty.mk 9 i al) = 9 from rfl)] at h
  simp only [Bool.and_eq_true,decide_eq_true_eq] at h
  omega
 ·rw [over_mk h9] at h
  simp only [Bool.and_eq_true,List.all_eq_true] at h
  rw [occ_mk h9,List.any_eq_false]
  intro x hx
  rw [ih x hx (h.2 x hx) v];simp
theorem ap_no {θ : Int → Ty} : ∀ (t : Ty),(∀ v : Int,occ v t = false) → ap θ t = t:=by
 refine Un.Ty.ind fun k i al ih => ?_
 intro h
 by_cases h9 : k = 9
 ·subst h9
  have:=h i
  rw [occ_eq,if_pos (show kd (Ty.mk 9 i al) = 9 from rfl)] at this
  simp [nm] at this
 ·rw [ap_mk h9]
  have : al.map (ap θ) = al:=by
   have h1:=List.map_congr_left (f:=ap θ) (g:=id) (l:=al) (fun a ha => ih a ha (fun v => by
    have h2:=h v
    rw [occ_mk h9,List.any_eq_false] at h2
    have h3:=h2 a ha
    simpa using h3))
   rw [h1,List.map_id]
  rw [this]
def asg (u : List Ty) (i : Int) : Ty:=(u[i.toNat]?).getD zero
theorem asg_get {u : List Ty} {i : Nat} {x : Ty} (h : u[i]? = some x) : asg u i = x:=by
 unfold asg
 rw [Int.toNat_natCast,h];rfl
end Un
end Go.Proofs.Ytcdlnhfgehhkcaa
namespace Go.Proofs.Ytcdlnhfgehhkcaa
open Go.RowKit Go.Lib
open Un (kd nm ar size sizes over occ depth)
namespace Un
def goP (g : Nat → Ty → Nat) : Nat → List Ty → Nat
 | l,[] => l
 | l,a :: r => if 0 < l then goP g (g l a) r else l
def solvedVar (s : List Ty) (t : Ty) : Option Ty:=if kd t = 9 ∧ 0 ≤ nm t then match s[(nm t).toNat]? with
 | some x => if kd x = 0 then none else some x
 | none => none
 else none
def partsF (s : List Ty) : Nat → Nat → Ty → Nat
 | 0,_,_ => 0
 | f + 1,L,t => match (if 0 < L - 1 then solvedVar s t else none) with
  | some x => partsF s f (L - 1) x
  | none => goP (partsF s f) (L - 1) (ar t)
theorem goP_le {g : Nat → Ty → Nat} {B : Nat} (hg : ∀ l a,0 < l → l ≤ B → g l a ≤ l - 1) : ∀ (l : List Ty) (L : Nat),L ≤ B → goP g L l ≤ L
 | [],L,_ => Nat.le_refl _
 | a :: r,L,h => by
  rw [goP]
  split
  ·have h1:=hg L a (by assumption) h
   have h2:=goP_le hg r (g L a) (by omega)
   omega
  ·exact Nat.le_refl _
theorem partsF_le {s : List Ty} : ∀ (f L : Nat) (t : Ty),0 < L → partsF s f L t ≤ L - 1
 | 0,L,t,_ => by rw [partsF];omega
 | f + 1,L,t,hL => by
  rw [partsF]
  split
  ·rename_i x h
   have hl : 0 < L - 1:=by
    by_cases h1 : 0 < L - 1
    ·exact h1
    ·rw [if_neg h1] at h;cases h
   have:=partsF_le (s:=s) f (L - 1) x hl
   omega
  ·exact goP_le (B:=L - 1) (fun l a h _ => partsF_le f l a h) _ _ (Nat.le_refl _)
theorem goP_step {g : Nat → Ty → Nat} {l : List Ty} {i L : Nat} (hi : i < l.length) (h0 : 0 < L) : goP g L (l.drop i) = goP g (g L l[i]) (l.drop (i + 1)):=by
 rw [List.drop_eq_getElem_cons hi,goP,if_pos h0]
theorem goP_end {g : Nat → Ty → Nat} {l : List Ty} {i L : Nat} (hi : l.length ≤ i) : goP g L (l.drop i) = L:=by
 rw [List.drop_eq_nil_of_le hi,goP]
theorem goP_zero {g : Nat → Ty → Nat} {l : List Ty} : goP g 0 l = 0:=by
 cases l <;> simp [goP]
end Un
open Un (partsF goP solvedVar)
theorem TysV.elem {N : Nat → Prop} {s : List Ty} {ps : Option Addr} {n kp : Nat} {w : World} (h : TysV w N s (.slice ps n kp)) {i : Nat} {x : Ty} (hx : s[i]? = some x) : ∃ b o,ps = some ⟨b,o,none⟩ ∧ TysAt w N s b o:=by
 rcases h.cases with ⟨h1,_⟩ | ⟨_,b,o,cap,heq,_,_,hat⟩
 ·rw [h1] at hx;simp at hx
 ·simp only [Value.slice.injEq] at heq
  exact ⟨b,o,heq.1,hat⟩
set_option maxRecDepth 100000 in
set_option maxHeartbeats 3200000 in
theorem parts_any (N : Nat → Prop) (s : List Ty) (v : Value) : ∀ (f L : Nat),0 < L → L ≤ f → L ≤ 1000 → ∀ (t : Ty) (cs : List Value) (w : World),TysV w N s v → TyV w N t cs → Calls Try.prog 36 #[v,.agg cs.toArray,.int .i64 L] w (NumP (partsF s f L t) w):=by
 intro f
 induction f with
 | zero => intro L h0 h1;omega
 | succ f ih =>
  intro L hL0 hLf hL1 t cs w hv h
  obtain ⟨ps,kp,rfl⟩:=hv.shape
  obtain ⟨n,hn⟩ : ∃ n,n = s.length:=⟨_,rfl⟩
  have hlm0:=hv.len
  unfold maxLen at hlm0
  rw [← hn] at hlm0 hv ⊢
  obtain ⟨l,hl⟩ : ∃ l,l = L - 1:=⟨_,rfl⟩
  have hLl : ((L : Nat) : Int) - 1 = (l : Int):=by omega
  have IH : Hid (∀ L',0 < L' → L' ≤ l → ∀ (x : Ty) (cs : List Value) (w : World),TysV w N s (.slice ps n kp) → TyV w N x cs → Calls Try.prog 36 #[.slice ps n kp,.agg cs.toArray,.int .i64 L'] w (NumP (partsF s f L' x) w)):=hid fun L' h1 h2 x cs w hv hx => by
   have:=ih L' h1 (by omega) (by omega) x cs w (by rw [hn] at hv;exact hv) hx
   rwa [← hn] at this
  obtain ⟨R,hR⟩ : ∃ R,R = partsF s (f + 1) L t:=⟨_,rfl⟩
  rw [← hR]
  rw [partsF,← hl] at hR
  have HR:=hid hR
  obtain ⟨p,c,rfl,ha⟩:=h.shape
  have hlm:=ha.len
  unfold maxLen at hlm
  have HA:=hid ha
  have HV:=hid hv
  have HVA : Hid (∀ wx,Fr [] w wx → Calls Try.prog 59 #[.agg #[.int .i64 (kd t),.int .i64 (nm t),.slice p (ar t).length c]] wx (LookP (kd t == 9) wx)):=hid (fun wx hf => rvariable_any t _ wx N (h.keep0 hf))
  obtain ⟨al,hal⟩ : ∃ al,al = ar t:=⟨_,rfl⟩
  rw [← hal] at HR HA hlm HVA ⊢
  obtain ⟨im,him⟩ : ∃ im,im = nm t:=⟨_,rfl⟩
  have HSV : Hid (∀ x,solvedVar s t = some x ↔ kd t = 9 ∧ 0 ≤ im ∧ s[im.toNat]? = some x ∧ kd x ≠ 0):=hid (fun x => by
   unfold Un.solvedVar
   rw [← him]
   by_cases h1 : kd t = 9 ∧ 0 ≤ im
   ·rw [if_pos h1]
    cases h2 : s[im.toNat]? with
    | none => simp
    | some y =>
     simp only
     by_cases h3 : kd y = 0
     ·rw [if_pos h3]
      constructor
      ·intro h;cases h
      ·rintro ⟨_,_,h4,h5⟩;cases h4;exact absurd h3 h5
     ·rw [if_neg h3]
      constructor
      ·intro h;cases h;exact ⟨h1.1,h1.2,rfl,h3⟩
      ·rintro ⟨_,_,h4,_⟩;exact h4
   ·rw [if_neg h1]
    constructor
    ·intro h;cases h
    ·rintro ⟨h2,h3,_⟩;exact absurd ⟨h2,h3⟩ h1)
  rw [← him] at HVA ⊢
  obtain ⟨sv,hsv⟩ : ∃ sv,sv = (if 0 < l then solvedVar s t else none):=⟨_,rfl⟩
  have HSV2:=hid hsv
  rw [← hsv] at HR
  obtain ⟨w1,hw1⟩ : ∃ w1,w1 = w.alloc (.cells #[.int .i64 (kd t),.int .i64 im,.slice p al.length c] 24):=⟨_,rfl⟩
  have HF0 : Hid (Fr [] w w1):=hid (by rw [hw1];exact (Fr.refl _ _).alloc _)
  have HB0 : Hid (Blk w1 w.heap.size 24 #[.int .i64 (kd t),.int .i64 im,.slice p al.length c]):=hid (by rw [hw1];exact Blk.new _ _ _)
  have HN:=hid hn
  have HLL:=hid hl
  clear h ha ih hR hal hv hn hl him hsv
  go_enter Try.func36,Try.ntmps36
  go_upto_region 2 with fail
  rw [← hw1]
  clear hw1
  go_cut [36] (fun s36 wx => s36 = .bool sv.isSome ∧ Fr [] w wx ∧ Blk wx w.heap.size 24 #[.int .i64 (kd t),.int .i64 im,.slice p al.length c])
  case first =>
   have x0 : w1.cell? ⟨w.heap.size,0,none⟩ = some (.int .i64 (kd t)):=HB0.out.cell 0
   have x1 : w1.cell? ⟨w.heap.size,1,none⟩ = some (.int .i64 im):=HB0.out.cell 1
   have x2 : w1.cell? ⟨w.heap.size,2,none⟩ = some (.slice p al.length c):=HB0.out.cell 2
   have xl : w.heap.size < w1.heap.size:=HB0.out.lt
   go_wp2_with fail
   refine (HVA.out w1 HF0.out).mono ?_
   rintro e w2 ⟨rfl,hf2⟩
   have HF2:=hid (HF0.out.trans hf2)
   have HB2:=hid (HB0.out.keep hf2 (by simp))
   clear hf2 x0 x1 x2 xl
   have x0 : w2.cell? ⟨w.heap.size,0,none⟩ = some (.int .i64 (kd t)):=HB2.out.cell 0
   have x1 : w2.cell? ⟨w.heap.size,1,none⟩ = some (.int .i64 im):=HB2.out.cell 1
   have x2 : w2.cell? ⟨w.heap.size,2,none⟩ = some (.slice p al.length c):=HB2.out.cell 2
   have xl : w.heap.size < w2.heap.size:=HB2.out.lt
   have hno : (∀ x,¬ (0 < l ∧ solvedVar s t = some x)) → sv.isSome = false:=fun h => by
    rw [HSV2.out]
    by_cases h1 : 0 < l
    ·rw [if_pos h1]
     cases h2 : solvedVar s t with
     | none => rfl
     | some x => exact absurd ⟨h1,h2⟩ (h x)
    ·rw [if_neg h1];rfl
   have HNO:=hid hno
   clear hno
   by_cases h9 : kd t = 9
   ·have e1 : (kd t == 9) = true:=by simp [h9]
    have H9:=hid h9
    rw [e1]
    clear h9 e1
    cases h0 : decide (0 ≤ im) with
    | false =>
     have HB : Hid (sv.isSome = false):=hid (HNO.out (fun x h => by have:=((HSV.out x).1 h.2).2.1;simp at h0;omega))
     go_wp2_with fail
     go_meet
     exact ⟨by rw [HB.out],HF2.out,HB2.out⟩
    | true =>
     obtain ⟨m,rfl⟩ : ∃ m : Nat,im = m:=⟨im.toNat,by simp at h0;omega⟩
     by_cases hmn : m < n
     ·have e4 : decide (m < n) = true:=by simpa using hmn
      have e5 : decide ((m : Int) < (n : Int)) = true:=by simp;omega
      obtain ⟨x,hx⟩ : ∃ x,s[m]? = some x:=⟨_,List.getElem?_eq_getElem (by rw [← HN.out];exact hmn)⟩
      obtain ⟨b,o,rfl,hat⟩:=HV.out.elem hx
      obtain ⟨p1,c1,k1,hb,g0,g1,g2⟩:=hat.el HF2.out (by simp) hx
      have HX:=hid hx
      clear hat hx k1 g1 g2
      cases hk : (kd x != 0) with
      | false =>
       have HB : Hid (sv.isSome = false):=hid (HNO.out (fun y h => by
        have h1:=((HSV.out y).1 h.2).2.2
        rw [Int.toNat_natCast,HX.out] at h1
        cases h1.1
        simp at hk
        exact h1.2 hk))
       go_wp2_with fail
       go_meet
       exact ⟨by rw [HB.out],HF2.out,HB2.out⟩
      | true =>
       cases hl0 : decide (0 < l) with
       | false =>
        have HB : Hid (sv.isSome = false):=hid (HNO.out (fun y h => by simp at hl0;omega))
        go_wp2_with fail
        go_meet
        exact ⟨by rw [HB.out],HF2.out,HB2.out⟩
       | true =>
        have HB : Hid (sv.isSome = true):=hid (by
         rw [HSV2.out,if_pos (by simp at hl0;omega),(HSV.out x).2 ⟨H9.out,by omega,by rw [Int.toNat_natCast];exact HX.out,by simpa using hk⟩];rfl)
        go_wp2_with fail
        go_meet
        exact ⟨by rw [HB.out],HF2.out,HB2.out⟩
     ·have e5 : decide ((m : Int) < (n : Int)) = false:=by simp;omega
      have HB : Hid (sv.isSome = false):=hid (HNO.out (fun y h => by
       have h1:=((HSV.out y).1 h.2).2.2.1
       rw [Int.toNat_natCast] at h1
       have:=(List.getElem?_eq_some_iff.1 h1).1
       have:=HN.out
       omega))
      go_wp2_with fail
      go_meet
      exact ⟨by rw [HB.out],HF2.out,HB2.out⟩
   ·have e1 : (kd t == 9) = false:=by simp [h9]
    have HB : Hid (sv.isSome = false):=hid (HNO.out (fun x h => h9 ((HSV.out x).1 h.2).1))
    rw [e1]
    clear h9 e1
    go_wp2_with fail
    go_meet
    exact ⟨by rw [HB.out],HF2.out,HB2.out⟩
  case rest =>
  obtain ⟨rfl,hf3,hb3⟩:=hcut
  obtain ⟨w3,hw3⟩ : ∃ v : World,v = wc:=⟨_,rfl⟩
  subst hw3
  have HF3:=hid hf3
  have HB3:=hid hb3
  clear hf3 hb3
  cases sv with
  | some x =>
   have hsv:=HSV2.out
   have hl0 : 0 < l:=by
    by_cases h1 : 0 < l
    ·exact h1
    ·rw [if_neg h1] at hsv;cases hsv
   rw [if_pos hl0] at hsv
   obtain ⟨h9,h0,hx,hk⟩:=(HSV.out x).1 hsv.symm
   obtain ⟨m,rfl⟩ : ∃ m : Nat,im = m:=⟨im.toNat,by omega⟩
   rw [Int.toNat_natCast] at hx
   have hmn : m < n:=by rw [HN.out];exact (List.getElem?_eq_some_iff.1 hx).1
   have e4 : decide (m < n) = true:=by simpa using hmn
   have e5 : decide ((m : Int) < (n : Int)) = true:=by simp;omega
   have e6 : (m : Int) < (n : Int):=by omega
   obtain ⟨b,o,rfl,hat⟩:=HV.out.elem hx
   obtain ⟨p1,c1,k1,hb,g0,g1,g2⟩:=hat.el HF3.out (by simp) hx
   have K1:=hid k1
   have x0 : w3.cell? ⟨w.heap.size,0,none⟩ = some (.int .i64 (kd t)):=HB3.out.cell 0
   have x1 : w3.cell? ⟨w.heap.size,1,none⟩ = some (.int .i64 m):=HB3.out.cell 1
   have x2 : w3.cell? ⟨w.heap.size,2,none⟩ = some (.slice p al.length c):=HB3.out.cell 2
   have xl : w.heap.size < w3.heap.size:=HB3.out.lt
   have HL0:=hid hl0
   clear hat hx k1 h9 h0 hk hsv
   simp only [Option.isSome_some]
   go_wp2_with fail
   refine (IH.out l HL0.out (Nat.le_refl _) x _ w3 (HV.out.keep0 HF3.out) K1.out).mono ?_
   rintro e w4 ⟨rfl,hf4⟩
   have HF4:=hid (HF3.out.trans hf4)
   clear hf4
   go_wp2_with fail
   go_ret
   exact ⟨by rw [HR.out];rfl,HF4.out⟩
  | none =>
   have HR2 : Hid (goP (partsF s f) l (al.drop 0) = R):=hid HR.out.symm
   simp only [Option.isSome_none]
   go_wp2_with fail
   go_loopw [2,7] (fun v2 v7 wr => ∃ i l' : Nat,v7 = .int .i64 i ∧ v2 = .int .i64 l' ∧ i ≤ al.length ∧ l' ≤ l ∧ Hid (goP (partsF s f) l' (al.drop i) = R) ∧ Hid (Fr [] w wr) ∧ Hid (Blk wr w.heap.size 24 #[.int .i64 (kd t),.int .i64 im,.slice p al.length c])) (fun _ v7 _ => al.length - (RowKit.intOf v7).toNat)
   case atStart => exact ⟨0,l,rfl,by first | rfl | (go_num),Nat.zero_le _,Nat.le_refl _,HR2,HF3,HB3⟩
   case round =>
    obtain ⟨i,l',rfl,rfl,hi,hll,HG,HFR,HBR⟩:=hrel
    have hbl : w.heap.size < wr.heap.size:=HBR.out.lt
    have b2 : wr.cell? ⟨w.heap.size,2,none⟩ = some (.slice p al.length c):=HBR.out.cell 2
    by_cases hlt : i < al.length
    ·have hd2 : decide ((i : Int) < (al.length : Int)) = true:=by simp;omega
     have hd3 : decide (i < al.length) = true:=by simpa using hlt
     by_cases hl0 : 0 < l'
     ·have hd4 : decide (0 < (l' : Int)) = true:=by simp;omega
      obtain ⟨b,o,rfl,hat⟩ : ∃ b o,p = some ⟨b,o,none⟩ ∧ TysAt w N al b o:=by
       rcases HA.out.cases with ⟨h,_⟩ | ⟨_,b,o,cap,heq,_,_,hat⟩
       ·rw [h] at hlt;simp at hlt
       ·simp only [Value.slice.injEq] at heq
        exact ⟨b,o,heq.1,hat⟩
      obtain ⟨p1,c1,k1,hb,g0,g1,g2⟩:=hat.el HFR.out (by simp) (List.getElem?_eq_getElem hlt)
      have K1:=hid k1
      have hg:=HG.out
      rw [Un.goP_step hlt hl0] at hg
      obtain ⟨x,hx⟩ : ∃ x,x = al[i]:=⟨_,rfl⟩
      rw [← hx] at g0 g1 g2 K1 hg
      have HG2:=hid hg
      have HPL:=hid (Un.partsF_le (s:=s) f l' x hl0)
      have HL0:=hid hl0
      have HV1:=hid (HV.out.keep0 HFR.out)
      clear k1 hat hx hg
      go_wp2_with fail
      refine (IH.out l' HL0.out hll x _ _ HV1.out K1.out).mono ?_
      rintro e w5 ⟨rfl,hf5⟩
      have HF5:=hid (HFR.out.trans hf5)
      have HB5:=hid (HBR.out.keep hf5 (by simp))
      clear hf5 g0 g1 g2 b2 hbl
      go_wp2_with fail
      go_roundw
      case rel => exact ⟨i + 1,_,by go_num,rfl,by omega,by have:=HPL.out;omega,HG2,HF5,HB5⟩
      case measure => simp [RowKit.intOf];omega
     ·have hd4 : decide (0 < (l' : Int)) = false:=by simp;omega
      have HRZ : Hid (R = l'):=hid (by
       have h1:=HG.out
       have h2 : l' = 0:=by omega
       rw [h2,Un.goP_zero] at h1
       omega)
      go_wp2_with fail
      go_ret
      exact ⟨by rw [HRZ.out];rfl,HFR.out⟩
    ·have hd2 : decide ((i : Int) < (al.length : Int)) = false:=by simp;omega
     have hd3 : decide (i < al.length) = false:=by simpa using hlt
     have HRZ : Hid (R = l'):=hid (by
      have h1:=HG.out
      rw [Un.goP_end (by omega)] at h1
      exact h1.symm)
     go_wp2_with fail
     go_ret
     exact ⟨by rw [HRZ.out];rfl,HFR.out⟩
end Go.Proofs.Ytcdlnhfgehhkcaa
namespace Go.Proofs.Ytcdlnhfgehhkcaa
open Go.RowKit Go.Lib
open Un (kd nm ar size sizes over occ depth partsF)
namespace Un
def lightB (s l : List Ty) : Bool:=(l.all fun t => decide (0 < partsF s 101 101 t)) && ((List.range s.length).all fun i => decide (0 < partsF s 101 101 (var i)))
end Un
set_option maxRecDepth 100000 in
set_option maxHeartbeats 3200000 in
theorem light_any (N : Nat → Prop) (s l : List Ty) (v v' : Value) (w : World) (hv : TysV w N s v) (hv' : TysV w N l v') : Calls Try.prog 10 #[v,v'] w (LookP (Un.lightB s l) w):=by
 obtain ⟨ps,kp,rfl⟩:=hv.shape
 obtain ⟨pl,kl,rfl⟩:=hv'.shape
 have hlm:=hv.len
 have hlm':=hv'.len
 unfold maxLen at hlm hlm'
 have HV:=hid hv
 have HV':=hid hv'
 obtain ⟨R,hR⟩ : ∃ R,R = Un.lightB s l:=⟨_,rfl⟩
 have HR:=hid hR
 rw [← hR]
 obtain ⟨n,hn⟩ : ∃ n,n = s.length:=⟨_,rfl⟩
 obtain ⟨k,hk⟩ : ∃ k,k = l.length:=⟨_,rfl⟩
 rw [← hn] at hlm HV ⊢
 rw [← hk] at hlm' HV' ⊢
 have HN:=hid hn
 have HK:=hid hk
 have HP : Hid (∀ (t : Ty) (cs : List Value) (wx : World),Fr [] w wx → TyV wx N t cs → Calls Try.prog 36 #[.slice ps n kp,.agg cs.toArray,.int .i64 101] wx (NumP (partsF s 101 101 t) wx)):=hid (fun t cs wx hf ht => by
  have h1:=parts_any N s (.slice ps n kp) 101 101 (by omega) (Nat.le_refl _) (by omega) t cs wx (by have:=HV.out.keep0 hf;exact this) ht
  exact h1)
 clear hv hv' hR hn hk
 go_enter Try.func10,Try.ntmps10
 go_wp2_with fail
 go_loopw [5] (fun x wr => ∃ i : Nat,x = .int .i64 i ∧ i ≤ k ∧ Hid (∀ j,j < i → ∀ t,l[j]? = some t → 0 < partsF s 101 101 t) ∧ Hid (Fr [] w wr)) (fun x _ => k - (RowKit.intOf x).toNat)
 case atStart => exact ⟨0,rfl,Nat.zero_le _,hid (fun j hj => by omega),hid (Fr.refl _ _)⟩
 case round =>
  obtain ⟨i,rfl,hi,HG,HFR⟩:=hrel
  by_cases hlt : i < k
  ·have hd2 : decide ((i : Int) < (k : Int)) = true:=by simp;omega
   have hd3 : decide (i < k) = true:=by simpa using hlt
   obtain ⟨t,ht⟩ : ∃ t,l[i]? = some t:=⟨_,List.getElem?_eq_getElem (by rw [← HK.out];exact hlt)⟩
   obtain ⟨b,o,rfl,hat⟩:=HV'.out.elem ht
   obtain ⟨p1,c1,k1,hb,g0,g1,g2⟩:=hat.el HFR.out (by simp) ht
   have K1:=hid k1
   have HT:=hid ht
   clear hat ht k1
   go_wp2_with fail
   refine (HP.out t _ wr HFR.out K1.out).mono ?_
   rintro e w2 ⟨rfl,hf2⟩
   have HF2:=hid (HFR.out.trans hf2)
   clear hf2 g0 g1 g2
   cases hp : decide (partsF s 101 101 t = 0) with
   | true =>
    have HRF : Hid (R = false):=hid (by
     rw [HR.out]
     unfold Un.lightB
     have : (l.all fun t => decide (0 < partsF s 101 101 t)) = false:=by
      cases hq : l.all fun t => decide (0 < partsF s 101 101 t) with
      | false => rfl
      | true =>
       have h1:=(List.all_eq_true.1 hq) t (List.mem_of_getElem? HT.out)
       simp at h1 hp
       omega
     rw [this];rfl)
    go_wp2_with fail
    go_ret
    exact ⟨by rw [HRF.out];rfl,HF2.out⟩
   | false =>
    have HPP : Hid (0 < partsF s 101 101 t):=hid (by simp at hp;omega)
    go_wp2_with fail
    go_roundw
    case rel => exact ⟨i + 1,by go_num,by omega,hid (fun j hj y hy => by
     by_cases hj' : j < i
     ·exact HG.out j hj' y hy
     ·obtain rfl : j = i:=by omega
      rw [HT.out] at hy
      cases hy
      exact HPP.out),HF2⟩
    case measure => simp [RowKit.intOf];omega
  ·have hd2 : decide ((i : Int) < (k : Int)) = false:=by simp;omega
   have hd3 : decide (i < k) = false:=by simpa using hlt
   have HALL : Hid ((l.all fun t => decide (0 < partsF s 101 101 t)) = true):=hid (by
    rw [List.all_eq_true]
    intro x hx
    obtain ⟨j,hj⟩:=List.mem_iff_getElem?.1 hx
    have:=(List.getElem?_eq_some_iff.1 hj).1
    simp only [decide_eq_true_eq]
    exact HG.out j (by have:=HK.out;omega) x hj)
   go_wp2_with fail
   obtain ⟨wo,hwo⟩ : ∃ wo : World,wo = wr:=⟨_,rfl⟩
   subst hwo
   go_loopw [6] (fun x wr => ∃ i : Nat,x = .int .i64 i ∧ i ≤ n ∧ Hid (∀ j,j < i → 0 < partsF s 101 101 (Un.var j)) ∧ Hid (Fr [] w wr)) (fun x _ => n - (RowKit.intOf x).toNat)
   case atStart => exact ⟨0,rfl,Nat.zero_le _,hid (fun j hj => by omega),HFR⟩
   case round =>
    obtain ⟨q,rfl,hq,HG2,HFR2⟩:=hrel
    by_cases hlt2 : q < n
    ·have hd4 : decide ((q : Int) < (n : Int)) = true:=by simp;omega
     have hd5 : decide (q < n) = true:=by simpa using hlt2
     go_wp2_with fail
     refine (HP.out (Un.var q) [.int .i64 9,.int .i64 q,.slice none 0 0] wr HFR2.out (TyV.mk (TysV.nil _ _))).mono ?_
     rintro e w2 ⟨rfl,hf2⟩
     have HF2:=hid (HFR2.out.trans hf2)
     clear hf2
     cases hp : decide (partsF s 101 101 (Un.var q) = 0) with
     | true =>
      have HRF : Hid (R = false):=hid (by
       rw [HR.out]
       unfold Un.lightB
       have : ((List.range s.length).all fun i => decide (0 < partsF s 101 101 (Un.var i))) = false:=by
        cases hq2 : (List.range s.length).all fun i => decide (0 < partsF s 101 101 (Un.var i)) with
        | false => rfl
        | true =>
         have h1:=(List.all_eq_true.1 hq2) q (List.mem_range.2 (by rw [← HN.out];exact hlt2))
         simp at h1 hp
         omega
       rw [this];simp)
      go_wp2_with fail
      go_ret
      exact ⟨by rw [HRF.out];rfl,HF2.out⟩
     | false =>
      have HPP : Hid (0 < partsF s 101 101 (Un.var q)):=hid (by simp at hp;omega)
      go_wp2_with fail
      go_roundw
      case rel => exact ⟨q + 1,by go_num,by omega,hid (fun j hj => by
       by_cases hj' : j < q
       ·exact HG2.out j hj'
       ·obtain rfl : j = q:=by omega
        exact HPP.out),HF2⟩
      case measure => simp [RowKit.intOf];omega
    ·have hd4 : decide ((q : Int) < (n : Int)) = false:=by simp;omega
     have hd5 : decide (q < n) = false:=by simpa using hlt2
     have HRT : Hid (R = true):=hid (by
      rw [HR.out]
      unfold Un.lightB
      rw [HALL.out,Bool.true_and,List.all_eq_true]
      intro j hj
      have:=List.mem_range.1 hj
      simp only [decide_eq_true_eq]
      exact HG2.out j (by have:=HN.out;omega))
     go_wp2_with fail
     go_ret
     exact ⟨by rw [HRT.out];rfl,HFR2.out⟩
end Go.Proofs.Ytcdlnhfgehhkcaa
